/- WireEnds: at every note, every number of nodes, every place and all bytes behind: what is cut off is refused with ErrShort, what has bytes behind it with ErrLong; no condition. -/
import Derived.Test.YtligjdmbjkppkaaRows
import Derived.WalkKit
import Derived.ProofKit
import Derived.OpenShut
import Derived.Test.YtligjdmbjkppkaaWry
import Derived.Test.YtligjdmbjkppkaaWrz
namespace Go.Proofs.Ytligjdmbjkppkaa
open Go.ChangeShapes Go.WideShapes Go.ChangeAt Go.RowKit
set_option linter.unusedVariables false

theorem laidOut : laidOutB Try.prog = true := by kernel_rfl
theorem own : ownKnob Try.prog.godebug = none := by kernel_rfl
open Go.Shelf Go.Lib
theorem append_none {P : Program} {w : World} {ops : Array Oper} {rest : List Oper} {o : Oper} {a : Act} {Q : Exit → Act → World → Prop} (hgd : o.guard = none) (s x : Operand) (t : TypeId) (ho : o.op = .call { callee := .builtin .append, args := #[s, x], argTypes := #[t, t] }) (base : Nat) (e : TypeId) (i : TypeInfo) (size : Nat) (ht : P.underlying t = some (.slice e)) (hi : P.info? e = some i) (v : Value) (n : Nat) (xs : List Value) (hs : a.eval s = v) (hown : w.ownsRow base e size v n xs) (c m : Nat) (hm : m = 0) (hx : a.eval x = .slice none m c) (h : wpList P ops Q rest (a.put o.dst v) w) : wpList P ops Q (o :: rest) a w := by
  subst hm
  refine wpList_plain hgd fun K hK => ?_
  have hrun : (Builtin.append_ #[t, t] o.type #[v, .slice none 0 c]).run P w = .ok v w := by
    rcases hown.2 with ⟨rfl, rfl⟩ | ⟨g, cap, cur, rfl, _, _, hnc, _⟩
    · simp [Builtin.append_, run_underlying ht, sizeOf, typeInfo, hi, Builtin.lenOf, Builtin.firstCells]
    · simp [Builtin.append_, run_underlying ht, sizeOf, typeInfo, hi, Builtin.lenOf, Builtin.firstCells, hnc, storeCells]
  unfold Oper.wp
  simp [execOp, ho, resolve, invoke, builtin, hs, hx, hrun, Result.andThen]
  exact hK _ _ h
set_option maxHeartbeats 16000000 in
set_option maxRecDepth 100000 in
theorem walk (w : World) (k0 f0 g0 : Int) (N0 : Nat) (ad0 : Option Addr) (cap0 : Nat) (l0 : List (Int × Int × Int)) (hN0 : N0 < S128) (wk0 : (Lit.int .i64 k0).wf = true) (wf0 : (Lit.int .i64 f0).wf = true) (wr0 : (Lit.int .i64 g0).wf = true) (w0 : RdN w ad0 l0) (hc0 : ad0 = none → cap0 = 0) (hq0 : l0.length ≤ cap0) (a1 : Int) (w1 : (Lit.int .i64 a1).wf = true) (a2 : Int) (w2 : (Lit.int .i64 a2).wf = true) (ad3 : Option Addr) (cap3 : Nat) (l3 : List Nat) (w3 : RdB w ad3 l3) (hb3 : Byt l3) (hc3 : l3.length ≤ cap3) (hm3 : cap3 ≤ maxLen) :
    Calls Try.prog 6 #[rnv k0 f0 g0 N0 (.slice ad0 l0.length cap0), .int .i64 a1, .int .i64 a2, .slice ad3 l3.length cap3] w fun e w' => e = .returned (.bool true) ∧ Below w.heap.size w w' := by
  have hal := alive_any
  have hb0 := al1' w (.cells #[.int .i64 k0, .int .i64 f0, .int .i64 g0, .int .u32 (wd N0 0 : Nat), .int .u32 (wd N0 1 : Nat), .int .u32 (wd N0 2 : Nat), .int .u32 (wd N0 3 : Nat), .slice ad0 l0.length cap0] 27)
  have hB0 : RB (w.alloc (.cells #[.int .i64 k0, .int .i64 f0, .int .i64 g0, .int .u32 (wd N0 0 : Nat), .int .u32 (wd N0 1 : Nat), .int .u32 (wd N0 2 : Nat), .int .u32 (wd N0 3 : Nat), .slice ad0 l0.length cap0] 27)) w.heap.size k0 f0 g0 N0 (.slice ad0 l0.length cap0) := new_at rfl
  have hki := kind_any k0 f0 g0 N0 ad0 l0.length cap0 (w.alloc (.cells #[.int .i64 k0, .int .i64 f0, .int .i64 g0, .int .u32 (wd N0 0 : Nat), .int .u32 (wd N0 1 : Nat), .int .u32 (wd N0 2 : Nat), .int .u32 (wd N0 3 : Nat), .slice ad0 l0.length cap0] 27))
  obtain ⟨hk, hk3, hk2, hN⟩ := kd_facts k0 g0 N0 hN0
  obtain ⟨kd, hkd⟩ : ∃ x, kdN k0 = x := ⟨_, rfl⟩
  obtain ⟨r, hr⟩ : ∃ x, krN k0 g0 = x := ⟨_, rfl⟩
  obtain ⟨N, hNN⟩ : ∃ x, kNN k0 N0 = x := ⟨_, rfl⟩
  rw [hkd, hr, hNN] at hki
  rw [hkd] at hk hk3 hk2
  rw [hr] at hk3
  rw [hNN] at hk2 hN
  clear hkd hr hNN
  obtain ⟨W0, hW0⟩ : ∃ W0, w.alloc (.cells #[.int .i64 k0, .int .i64 f0, .int .i64 g0, .int .u32 (wd N0 0 : Nat), .int .u32 (wd N0 1 : Nat), .int .u32 (wd N0 2 : Nat), .int .u32 (wd N0 3 : Nat), .slice ad0 l0.length cap0] 27) = W0 := ⟨_, rfl⟩
  rw [hW0] at hb0 hB0 hki
  unfold rnv at hki
  unfold rnv
  obtain ⟨c0, c1, c2, c3, c4, c5, c6, c7⟩ := hB0.cells
  by_cases h3 : 300 < l0.length
  · have h3i : (300 : Int) < (l0.length : Int) := by omega
    go_enter Try.func6, Try.ntmps6
    go_wp2_with (first | (go_at_call 9; (with_reducible refine hki.mono ?_); rintro e u1 ⟨rfl, hbk⟩; have hB1 := hB0.below hbk; obtain ⟨e0, e1, e2, e3, e4, e5, e6, e7⟩ := hB1.cells; obtain ⟨z0, z1, z2, z3, z4, z5, z6, z7⟩ := hB1.thaw; have hBU : RB (((((((((u1.setCell ⟨w.heap.size, 0, none⟩ (.int .i64 (kd : Int))).setCell ⟨w.heap.size, 1, none⟩ (.int .i64 f0)).setCell ⟨w.heap.size, 2, none⟩ (.int .i64 r)).setCell ⟨w.heap.size, 3, none⟩ (.int .u32 (wd N 0 : Nat))).setCell ⟨w.heap.size, 4, none⟩ (.int .u32 (wd N 1 : Nat))).setCell ⟨w.heap.size, 5, none⟩ (.int .u32 (wd N 2 : Nat))).setCell ⟨w.heap.size, 6, none⟩ (.int .u32 (wd N 3 : Nat)))).setCell ⟨w.heap.size, 7, none⟩ (.slice ad0 l0.length cap0)) w.heap.size kd f0 r N (.slice ad0 l0.length cap0) := hB1.set8 kd f0 r N (.slice ad0 l0.length cap0); have hbU : Below w.heap.size w (((((((((u1.setCell ⟨w.heap.size, 0, none⟩ (.int .i64 (kd : Int))).setCell ⟨w.heap.size, 1, none⟩ (.int .i64 f0)).setCell ⟨w.heap.size, 2, none⟩ (.int .i64 r)).setCell ⟨w.heap.size, 3, none⟩ (.int .u32 (wd N 0 : Nat))).setCell ⟨w.heap.size, 4, none⟩ (.int .u32 (wd N 1 : Nat))).setCell ⟨w.heap.size, 5, none⟩ (.int .u32 (wd N 2 : Nat))).setCell ⟨w.heap.size, 6, none⟩ (.int .u32 (wd N 3 : Nat)))).setCell ⟨w.heap.size, 7, none⟩ (.slice ad0 l0.length cap0)) := below8 (bel2 hb0 hbk) kd f0 r N (.slice ad0 l0.length cap0); obtain ⟨U, hU⟩ : ∃ U, ((((((((u1.setCell ⟨w.heap.size, 0, none⟩ (.int .i64 (kd : Int))).setCell ⟨w.heap.size, 1, none⟩ (.int .i64 f0)).setCell ⟨w.heap.size, 2, none⟩ (.int .i64 r)).setCell ⟨w.heap.size, 3, none⟩ (.int .u32 (wd N 0 : Nat))).setCell ⟨w.heap.size, 4, none⟩ (.int .u32 (wd N 1 : Nat))).setCell ⟨w.heap.size, 5, none⟩ (.int .u32 (wd N 2 : Nat))).setCell ⟨w.heap.size, 6, none⟩ (.int .u32 (wd N 3 : Nat)))).setCell ⟨w.heap.size, 7, none⟩ (.slice ad0 l0.length cap0) = U := ⟨_, rfl⟩; rw [hU] at hBU hbU; obtain ⟨d0, d1, d2, d3, d4, d5, d6, d7⟩ := hBU.cells; have hRU := w0.carry hbU) | (go_at_call 10; (with_reducible refine (hal _).mono ?_); rintro e wv ⟨rfl, hbv⟩))
    go_ret
    exact ⟨rfl, bel2 hbU hbv⟩
  have h3i : decide ((300 : Int) < (l0.length : Int)) = false := decide_eq_false (by omega)
  have h3n : decide (300 < l0.length) = false := decide_eq_false h3
  by_cases h4 : 300 < l3.length
  · have h4i : (300 : Int) < (l3.length : Int) := by omega
    go_enter Try.func6, Try.ntmps6
    go_wp2_with (first | (go_at_call 9; (with_reducible refine hki.mono ?_); rintro e u1 ⟨rfl, hbk⟩; have hB1 := hB0.below hbk; obtain ⟨e0, e1, e2, e3, e4, e5, e6, e7⟩ := hB1.cells; obtain ⟨z0, z1, z2, z3, z4, z5, z6, z7⟩ := hB1.thaw; have hBU : RB (((((((((u1.setCell ⟨w.heap.size, 0, none⟩ (.int .i64 (kd : Int))).setCell ⟨w.heap.size, 1, none⟩ (.int .i64 f0)).setCell ⟨w.heap.size, 2, none⟩ (.int .i64 r)).setCell ⟨w.heap.size, 3, none⟩ (.int .u32 (wd N 0 : Nat))).setCell ⟨w.heap.size, 4, none⟩ (.int .u32 (wd N 1 : Nat))).setCell ⟨w.heap.size, 5, none⟩ (.int .u32 (wd N 2 : Nat))).setCell ⟨w.heap.size, 6, none⟩ (.int .u32 (wd N 3 : Nat)))).setCell ⟨w.heap.size, 7, none⟩ (.slice ad0 l0.length cap0)) w.heap.size kd f0 r N (.slice ad0 l0.length cap0) := hB1.set8 kd f0 r N (.slice ad0 l0.length cap0); have hbU : Below w.heap.size w (((((((((u1.setCell ⟨w.heap.size, 0, none⟩ (.int .i64 (kd : Int))).setCell ⟨w.heap.size, 1, none⟩ (.int .i64 f0)).setCell ⟨w.heap.size, 2, none⟩ (.int .i64 r)).setCell ⟨w.heap.size, 3, none⟩ (.int .u32 (wd N 0 : Nat))).setCell ⟨w.heap.size, 4, none⟩ (.int .u32 (wd N 1 : Nat))).setCell ⟨w.heap.size, 5, none⟩ (.int .u32 (wd N 2 : Nat))).setCell ⟨w.heap.size, 6, none⟩ (.int .u32 (wd N 3 : Nat)))).setCell ⟨w.heap.size, 7, none⟩ (.slice ad0 l0.length cap0)) := below8 (bel2 hb0 hbk) kd f0 r N (.slice ad0 l0.length cap0); obtain ⟨U, hU⟩ : ∃ U, ((((((((u1.setCell ⟨w.heap.size, 0, none⟩ (.int .i64 (kd : Int))).setCell ⟨w.heap.size, 1, none⟩ (.int .i64 f0)).setCell ⟨w.heap.size, 2, none⟩ (.int .i64 r)).setCell ⟨w.heap.size, 3, none⟩ (.int .u32 (wd N 0 : Nat))).setCell ⟨w.heap.size, 4, none⟩ (.int .u32 (wd N 1 : Nat))).setCell ⟨w.heap.size, 5, none⟩ (.int .u32 (wd N 2 : Nat))).setCell ⟨w.heap.size, 6, none⟩ (.int .u32 (wd N 3 : Nat)))).setCell ⟨w.heap.size, 7, none⟩ (.slice ad0 l0.length cap0) = U := ⟨_, rfl⟩; rw [hU] at hBU hbU; obtain ⟨d0, d1, d2, d3, d4, d5, d6, d7⟩ := hBU.cells; have hRU := w0.carry hbU) | (go_at_call 10; (with_reducible refine (hal _).mono ?_); rintro e wv ⟨rfl, hbv⟩))
    go_ret
    exact ⟨rfl, bel2 hbU hbv⟩
  have h4i : decide ((300 : Int) < (l3.length : Int)) = false := decide_eq_false (by omega)
  have h4n : decide (300 < l3.length) = false := decide_eq_false h4
  rcases (show kd = 1 ∨ kd = 2 ∨ kd = 3 by omega) with rfl | rfl | rfl
  · obtain rfl : N = 0 := hk2 (by decide)
    have hlay : ∀ W, Calls Try.prog 11 #[.agg #[.int .i64 1, .int .i64 f0, .int .i64 r, .int .u32 (wd 0 0 : Nat), .int .u32 (wd 0 1 : Nat), .int .u32 (wd 0 2 : Nat), .int .u32 (wd 0 3 : Nat), .slice ad0 l0.length cap0]] W fun e w' => e = .returned (.iface 52 (.agg #[.int .i64 f0, .int .i64 r, .slice ad0 l0.length cap0])) ∧ Below W.heap.size W w' := fun W => lay_any 1 f0 r 0 ad0 l0.length cap0 W
    have i1 := invQ_Bytes
    by_cases hf : flt 1 a1 f0 r 0 l0 = 0
    case neg =>
      have hby : ∀ (W : World) (a : Option Addr) (c : Nat), RdN W a l0 → Calls Try.prog 19 #[.agg #[.int .i64 f0, .int .i64 r, .slice a l0.length c], .int .i64 a1] W fun e W' => ∃ b2 c2, e = .returned (.tuple #[.slice b2 0 c2, .int .i64 (flt 1 a1 f0 r 0 l0)]) ∧ Below W.heap.size W W' := fun W a c hr => (qbytes_any a1 f0 r a c l0 W hr (by omega)).mono (fun e W' q => bo_no q hf)
      have hfi : (flt 1 a1 f0 r 0 l0 != 0) = true := by simpa using hf
      generalize flt 1 a1 f0 r 0 l0 = FV at *
      clear hf
      go_enter Try.func6, Try.ntmps6
      go_wp2_with (first | (go_at_call 9; (with_reducible refine hki.mono ?_); rintro e u1 ⟨rfl, hbk⟩; have hB1 := hB0.below hbk; obtain ⟨e0, e1, e2, e3, e4, e5, e6, e7⟩ := hB1.cells; obtain ⟨z0, z1, z2, z3, z4, z5, z6, z7⟩ := hB1.thaw; have hBU : RB (((((((((u1.setCell ⟨w.heap.size, 0, none⟩ (.int .i64 (1 : Int))).setCell ⟨w.heap.size, 1, none⟩ (.int .i64 f0)).setCell ⟨w.heap.size, 2, none⟩ (.int .i64 r)).setCell ⟨w.heap.size, 3, none⟩ (.int .u32 (wd 0 0 : Nat))).setCell ⟨w.heap.size, 4, none⟩ (.int .u32 (wd 0 1 : Nat))).setCell ⟨w.heap.size, 5, none⟩ (.int .u32 (wd 0 2 : Nat))).setCell ⟨w.heap.size, 6, none⟩ (.int .u32 (wd 0 3 : Nat)))).setCell ⟨w.heap.size, 7, none⟩ (.slice ad0 l0.length cap0)) w.heap.size 1 f0 r 0 (.slice ad0 l0.length cap0) := hB1.set8 1 f0 r 0 (.slice ad0 l0.length cap0); have hbU : Below w.heap.size w (((((((((u1.setCell ⟨w.heap.size, 0, none⟩ (.int .i64 (1 : Int))).setCell ⟨w.heap.size, 1, none⟩ (.int .i64 f0)).setCell ⟨w.heap.size, 2, none⟩ (.int .i64 r)).setCell ⟨w.heap.size, 3, none⟩ (.int .u32 (wd 0 0 : Nat))).setCell ⟨w.heap.size, 4, none⟩ (.int .u32 (wd 0 1 : Nat))).setCell ⟨w.heap.size, 5, none⟩ (.int .u32 (wd 0 2 : Nat))).setCell ⟨w.heap.size, 6, none⟩ (.int .u32 (wd 0 3 : Nat)))).setCell ⟨w.heap.size, 7, none⟩ (.slice ad0 l0.length cap0)) := below8 (bel2 hb0 hbk) 1 f0 r 0 (.slice ad0 l0.length cap0); obtain ⟨U, hU⟩ : ∃ U, ((((((((u1.setCell ⟨w.heap.size, 0, none⟩ (.int .i64 (1 : Int))).setCell ⟨w.heap.size, 1, none⟩ (.int .i64 f0)).setCell ⟨w.heap.size, 2, none⟩ (.int .i64 r)).setCell ⟨w.heap.size, 3, none⟩ (.int .u32 (wd 0 0 : Nat))).setCell ⟨w.heap.size, 4, none⟩ (.int .u32 (wd 0 1 : Nat))).setCell ⟨w.heap.size, 5, none⟩ (.int .u32 (wd 0 2 : Nat))).setCell ⟨w.heap.size, 6, none⟩ (.int .u32 (wd 0 3 : Nat)))).setCell ⟨w.heap.size, 7, none⟩ (.slice ad0 l0.length cap0) = U := ⟨_, rfl⟩; rw [hU] at hBU hbU; obtain ⟨d0, d1, d2, d3, d4, d5, d6, d7⟩ := hBU.cells; have hRU := w0.carry hbU) | (go_at_call 11; (with_reducible refine (hlay _).mono ?_); rintro e u2 ⟨rfl, hb2⟩; have hbU2 := bel2 hbU hb2; have hBU2 := hBU.below hb2; have hRU2 := hRU.carry hb2) | (go_at_call 19; (with_reducible refine (hby _ _ _ hRU2).mono ?_); rintro e u3 ⟨b2, c2x, rfl, hb3⟩) | (go_at_call 10; (with_reducible refine (hal _).mono ?_); rintro e wv ⟨rfl, hbv⟩))
      go_ret
      exact ⟨rfl, bel2 (bel2 hbU2 hb3) hbv⟩
    obtain ⟨hn, hfr, hrd, _, hri⟩ := flt_0 hf
    obtain ⟨fr, rfl⟩ := Int.eq_ofNat_of_zero_le hfr.1
    obtain ⟨n, rfl⟩ := Int.eq_ofNat_of_zero_le (show 0 ≤ a1 by omega)
    obtain ⟨rd, rfl⟩ := Int.eq_ofNat_of_zero_le (show 0 ≤ r by omega)
    have hdo := dec_of (n := n) (fr := fr) (rd := rd) (N := 0) (l := l0) (show 1 ≤ 1 ∧ 1 ≤ 3 by decide) hf (fun e => absurd e (by decide)) (fun _ => rfl)
    obtain ⟨B, hB⟩ : ∃ B, byt7 1 n fr rd 0 l0 = B := ⟨_, rfl⟩
    have hBB : Byt B := hB ▸ byt7_byt _ _ _ _ _ _
    have hBs : B.length ≤ 1024 := by rw [← hB]; exact byt7_short hf
    have hby : ∀ (W : World) (a : Option Addr) (c : Nat), RdN W a l0 → Calls Try.prog 19 #[.agg #[.int .i64 (fr : Int), .int .i64 (rd : Int), .slice a l0.length c], .int .i64 (n : Int)] W fun e W' => ∃ b2 c2, e = .returned (.tuple #[.slice b2 B.length c2, .int .i64 0]) ∧ RdB W' b2 B ∧ B.length ≤ c2 ∧ W'.ownsRow W.heap.size 5 1 (.slice b2 B.length c2) B.length (cB B) ∧ Below W.heap.size W W' := fun W a c hr => (qbytes_any (n : Int) fr rd a c l0 W hr (by omega)).mono (by
      intro e W' q
      obtain ⟨b2, c2, q1, q5, q2, q4, q3⟩ := bo_ok q hf
      rw [Int.toNat_natCast, hB] at q1 q2 q4 q5
      exact ⟨b2, c2, q1, q2, q4, q5, q3⟩)
    have hB10 : 9 ≤ B.length := by
      have h1 : 5 ≤ (frm 1 n fr rd 0 l0).length := by unfold frm; simp only [List.length_append, List.length_cons]; omega
      rw [← hB, byt7_len]
      omega
    have hbyg : ∀ (W : World) (a : Option Addr) (c : Nat), RdN W a l0 → Calls Try.prog 19 #[.agg #[.int .i64 (fr : Int), .int .i64 (rd : Int), .slice a l0.length c], .int .i64 (n : Int)] W fun e W' => ∃ g c2, e = .returned (.tuple #[.slice (some ⟨g, 0, none⟩) B.length c2, .int .i64 0]) ∧ B.length ≤ c2 ∧ W.heap.size ≤ g ∧ BAt W' g 0 B ∧ W'.ownsRow W.heap.size 5 1 (.slice (some ⟨g, 0, none⟩) B.length c2) B.length (cB B) ∧ Below W.heap.size W W' := fun W a c hr => (hby W a c hr).mono (by
      rintro e W' ⟨b2, c2, q1, q2, q3, q4, q5⟩
      rcases own_form q4 with ⟨_, e2⟩ | ⟨g, c, e1, e2, e3, e4⟩
      · omega
      · cases e1
        exact ⟨g, _, q1, q3, e2, b_own q4 rfl, q4, q5⟩)
    have hLi : ¬ (B.length : Int) = 0 := by omega
    have hLe : ((B.length : Int) == 0) = false := by simpa using hLi
    obtain ⟨t, ht⟩ : ∃ t, a2.tmod (B.length : Int) = t := ⟨_, rfl⟩
    have ht1 : t < (B.length : Int) := by rw [← ht]; exact Int.tmod_lt_of_pos _ (by omega)
    have ht2 : -(B.length : Int) < t := by
      have := Int.tmod_lt_of_pos (-a2) (show 0 < (B.length : Int) by omega)
      rw [Int.neg_tmod, ht] at this
      omega
    have hcut : ∀ kk : Nat, kk < B.length → dec (n : Int) (B.take kk) = .error 76 := fun kk hkk => by
      have := dec_cut (kd := 1) (n := n) (fr := fr) (rd := rd) (N := 0) (l := l0) (by decide) hf (fun e => absurd e (by decide)) (fun _ => rfl) (m := kk) (by rw [hB]; exact hkk)
      rwa [hB] at this
    have hmore : l3 ≠ [] → dec (n : Int) (B ++ l3) = .error 2 := fun hne => by
      have := dec_more (kd := 1) (n := n) (fr := fr) (rd := rd) (N := 0) (l := l0) (by decide) hf (fun e => absurd e (by decide)) (fun _ => rfl) hne
      rwa [hB] at this
    have hsame : dec (n : Int) B = .ok (1, fr, rd, 0, l0) := by rw [← hB]; exact hdo
    obtain ⟨ic, hic, hz0, hz1, hz2⟩ := info_partsB
    clear hdo hB hf hrd hri hfr hn hk hk3 hk2
    by_cases hts : t < 0
    · obtain ⟨kk, hkk0⟩ := Int.eq_ofNat_of_zero_le (show 0 ≤ t + (B.length : Int) by omega)
      have hkk : kk < B.length := by omega
      have hkki : (kk : Int) < (B.length : Int) := by omega
      clear ht1 ht2
      have hdc : ∀ (W : World) (g c2 : Nat), g < W.heap.size → kk ≤ c2 → BAt W g 0 B → Calls Try.prog 12 #[.slice (some ⟨g, 0, none⟩) kk c2, .int .i64 (n : Int)] W fun e w' => e = .returned (.tuple #[.nilIface, .int .i64 76]) ∧ Below W.heap.size W w' := fun W g c2 h1 h2 h3 => by
        have hl : (B.take kk).length = kk := by rw [List.length_take]; omega
        have := decode_any (some ⟨g, 0, none⟩) c2 (B.take kk) (n : Int) W (fun _ => ⟨g, 0, rfl, h1, by have := h3.sub 0 kk; simpa using this⟩) (hBB.take kk) (by rw [hl]; exact h2)
        unfold DcO at this
        rw [hcut kk hkk, hl] at this
        exact this
      have h3w := w3
      by_cases hne : l3 = []
      · have HL3 : Hid (l3 = []) := hne
        have hl3i : ((l3.length : Int) == 0) = true := by rw [hne]; rfl
        clear hne
        cases ad3 with
        | none =>
          have hdl : ∀ (W : World) (v : Value), W.ownsRow w.heap.size 5 1 v (B ++ l3).length (cB (B ++ l3)) → Calls Try.prog 12 #[v, .int .i64 (n : Int)] W fun e w' => ∃ a c, e = .returned (.tuple #[.iface 52 (.agg #[.int .i64 (fr : Int), .int .i64 (rd : Int), .slice a l0.length c]), .int .i64 0]) ∧ Below W.heap.size W w' := fun W v ho => by
            obtain ⟨ad, cap, rfl, hr⟩ := RdB.own ho
            have hcap : (B ++ l3).length ≤ cap := by
              rcases own_form ho with ⟨e1, e2⟩ | ⟨g, c, e1, _, _, e4⟩
              · omega
              · cases e1; exact e4
            have := decode_any ad cap (B ++ l3) (n : Int) W hr (hBB.append hb3) hcap
            unfold DcO at this
            rw [HL3.out, List.append_nil] at this ⊢
            rw [hsame] at this
            refine this.mono ?_
            rintro e W' ⟨a, c, q1, _, q3⟩
            exact ⟨a, c, q1, q3⟩
          clear hmore hsame hcut hBB
          go_enter Try.func6, Try.ntmps6
          go_wp2_with (first | (go_at_call 9; (with_reducible refine hki.mono ?_); rintro e u1 ⟨rfl, hbk⟩; have hB1 := hB0.below hbk; obtain ⟨e0, e1, e2, e3, e4, e5, e6, e7⟩ := hB1.cells; obtain ⟨z0, z1, z2, z3, z4, z5, z6, z7⟩ := hB1.thaw; have hBU : RB (((((((((u1.setCell ⟨w.heap.size, 0, none⟩ (.int .i64 (1 : Int))).setCell ⟨w.heap.size, 1, none⟩ (.int .i64 (fr : Int))).setCell ⟨w.heap.size, 2, none⟩ (.int .i64 (rd : Int))).setCell ⟨w.heap.size, 3, none⟩ (.int .u32 (wd 0 0 : Nat))).setCell ⟨w.heap.size, 4, none⟩ (.int .u32 (wd 0 1 : Nat))).setCell ⟨w.heap.size, 5, none⟩ (.int .u32 (wd 0 2 : Nat))).setCell ⟨w.heap.size, 6, none⟩ (.int .u32 (wd 0 3 : Nat)))).setCell ⟨w.heap.size, 7, none⟩ (.slice ad0 l0.length cap0)) w.heap.size 1 (fr : Int) (rd : Int) 0 (.slice ad0 l0.length cap0) := hB1.set8 1 (fr : Int) (rd : Int) 0 (.slice ad0 l0.length cap0); have hbU : Below w.heap.size w (((((((((u1.setCell ⟨w.heap.size, 0, none⟩ (.int .i64 (1 : Int))).setCell ⟨w.heap.size, 1, none⟩ (.int .i64 (fr : Int))).setCell ⟨w.heap.size, 2, none⟩ (.int .i64 (rd : Int))).setCell ⟨w.heap.size, 3, none⟩ (.int .u32 (wd 0 0 : Nat))).setCell ⟨w.heap.size, 4, none⟩ (.int .u32 (wd 0 1 : Nat))).setCell ⟨w.heap.size, 5, none⟩ (.int .u32 (wd 0 2 : Nat))).setCell ⟨w.heap.size, 6, none⟩ (.int .u32 (wd 0 3 : Nat)))).setCell ⟨w.heap.size, 7, none⟩ (.slice ad0 l0.length cap0)) := below8 (bel2 hb0 hbk) 1 (fr : Int) (rd : Int) 0 (.slice ad0 l0.length cap0); obtain ⟨U, hU⟩ : ∃ U, ((((((((u1.setCell ⟨w.heap.size, 0, none⟩ (.int .i64 (1 : Int))).setCell ⟨w.heap.size, 1, none⟩ (.int .i64 (fr : Int))).setCell ⟨w.heap.size, 2, none⟩ (.int .i64 (rd : Int))).setCell ⟨w.heap.size, 3, none⟩ (.int .u32 (wd 0 0 : Nat))).setCell ⟨w.heap.size, 4, none⟩ (.int .u32 (wd 0 1 : Nat))).setCell ⟨w.heap.size, 5, none⟩ (.int .u32 (wd 0 2 : Nat))).setCell ⟨w.heap.size, 6, none⟩ (.int .u32 (wd 0 3 : Nat)))).setCell ⟨w.heap.size, 7, none⟩ (.slice ad0 l0.length cap0) = U := ⟨_, rfl⟩; rw [hU] at hBU hbU; obtain ⟨d0, d1, d2, d3, d4, d5, d6, d7⟩ := hBU.cells; have hRU := w0.carry hbU) | (go_at_call 11; (with_reducible refine (hlay _).mono ?_); rintro e u2 ⟨rfl, hb2⟩; have hbU2 := bel2 hbU hb2; have hBU2 := hBU.below hb2; have hRU2 := hRU.carry hb2) | (go_at_call 19; (with_reducible refine (hbyg _ _ _ hRU2).mono ?_); rintro e u3 ⟨g, c2x, rfl, hl3, hg3, hat3, ho3, hb3⟩; have hbU3 := bel2 hbU2 hb3; have hgU : w.heap.size ≤ g := Nat.le_trans hbU2.size hg3; have hgV : g < u3.heap.size := own_lt ho3 g rfl; have hkc : kk ≤ c2x := (by omega); have hkci : (kk : Int) ≤ (c2x : Int) := (by omega)) | (go_at_call 12; (with_reducible refine (hdc _ g c2x hgV hkc hat3).mono ?_); rintro e u4 ⟨rfl, hb4⟩; have hbU4 := bel2 hbU3 hb4; have hat4 : BAt u4 g 0 B := hat3.carry (hb4.block g hgV); have hsz4 : w.heap.size ≤ u4.heap.size := hbU4.size) | (at_builtin; refine append_none rfl _ _ 30 rfl w.heap.size 5 ic 1 Try.underlying30 hic _ B.length (cB B) rfl ho6' cap3 l3.length (by rw [HL3.out]; rfl) rfl ?_; have hb7 := hb6; have ho7 : u6.ownsRow w.heap.size 5 1 v6 (B ++ l3).length (cB (B ++ l3)) := (by rw [HL3.out, List.append_nil]; exact ho6')) | (at_builtin; refine wpList_append_own_at _ rfl _ _ 30 rfl w.heap.size 5 ic _ 1 1 Try.underlying30 hic hz0 hz1 hz2 rfl (by decide) _ 0 [] rfl (World.ownsRow_nil _ _ _ _) ⟨g, 0, none⟩ B.length c2x (cB B) rfl (by rw [cB_len, Nat.mul_one]) (b_src hat4) (cB_one B) (by unfold maxLen; omega) (by omega) hsz4 ?_; intro v6 u6 ho6 hg6 _ _; have hb6 : Below w.heap.size w u6 := hbU4.grown hg6 hsz4 (fun q e => by cases e); have ho6' : u6.ownsRow w.heap.size 5 1 v6 B.length (cB B) := (by simpa using ho6); have hsz6 := hb6.size; have h36 := h3w.carry hb6) | (go_at_call 12; (with_reducible refine (hdl _ _ ho7).mono ?_); rintro e u8 ⟨a, c, rfl, hb8⟩; have hbU8 := bel2 hb7 hb8) | (go_at_call 10; (with_reducible refine (hal _).mono ?_); rintro e wv ⟨rfl, hbv⟩))
          go_ret
          exact ⟨rfl, bel2 hbU8 hbv⟩
        | some aS =>
          have hsrc : ∀ W, RdB W (some aS) l3 → ∀ j u, (cB l3)[j]? = some u → W.cell? (aS.add j) = some u := fun W _ j u hj => by rw [HL3.out] at hj; simp [cB] at hj
          have hdl : ∀ (W : World) (v : Value), W.ownsRow w.heap.size 5 1 v (B ++ l3).length (cB (B ++ l3)) → Calls Try.prog 12 #[v, .int .i64 (n : Int)] W fun e w' => ∃ a c, e = .returned (.tuple #[.iface 52 (.agg #[.int .i64 (fr : Int), .int .i64 (rd : Int), .slice a l0.length c]), .int .i64 0]) ∧ Below W.heap.size W w' := fun W v ho => by
            obtain ⟨ad, cap, rfl, hr⟩ := RdB.own ho
            have hcap : (B ++ l3).length ≤ cap := by
              rcases own_form ho with ⟨e1, e2⟩ | ⟨g, c, e1, _, _, e4⟩
              · omega
              · cases e1; exact e4
            have := decode_any ad cap (B ++ l3) (n : Int) W hr (hBB.append hb3) hcap
            unfold DcO at this
            rw [HL3.out, List.append_nil] at this ⊢
            rw [hsame] at this
            refine this.mono ?_
            rintro e W' ⟨a, c, q1, _, q3⟩
            exact ⟨a, c, q1, q3⟩
          clear hmore hsame hcut hBB
          go_enter Try.func6, Try.ntmps6
          go_wp2_with (first | (go_at_call 9; (with_reducible refine hki.mono ?_); rintro e u1 ⟨rfl, hbk⟩; have hB1 := hB0.below hbk; obtain ⟨e0, e1, e2, e3, e4, e5, e6, e7⟩ := hB1.cells; obtain ⟨z0, z1, z2, z3, z4, z5, z6, z7⟩ := hB1.thaw; have hBU : RB (((((((((u1.setCell ⟨w.heap.size, 0, none⟩ (.int .i64 (1 : Int))).setCell ⟨w.heap.size, 1, none⟩ (.int .i64 (fr : Int))).setCell ⟨w.heap.size, 2, none⟩ (.int .i64 (rd : Int))).setCell ⟨w.heap.size, 3, none⟩ (.int .u32 (wd 0 0 : Nat))).setCell ⟨w.heap.size, 4, none⟩ (.int .u32 (wd 0 1 : Nat))).setCell ⟨w.heap.size, 5, none⟩ (.int .u32 (wd 0 2 : Nat))).setCell ⟨w.heap.size, 6, none⟩ (.int .u32 (wd 0 3 : Nat)))).setCell ⟨w.heap.size, 7, none⟩ (.slice ad0 l0.length cap0)) w.heap.size 1 (fr : Int) (rd : Int) 0 (.slice ad0 l0.length cap0) := hB1.set8 1 (fr : Int) (rd : Int) 0 (.slice ad0 l0.length cap0); have hbU : Below w.heap.size w (((((((((u1.setCell ⟨w.heap.size, 0, none⟩ (.int .i64 (1 : Int))).setCell ⟨w.heap.size, 1, none⟩ (.int .i64 (fr : Int))).setCell ⟨w.heap.size, 2, none⟩ (.int .i64 (rd : Int))).setCell ⟨w.heap.size, 3, none⟩ (.int .u32 (wd 0 0 : Nat))).setCell ⟨w.heap.size, 4, none⟩ (.int .u32 (wd 0 1 : Nat))).setCell ⟨w.heap.size, 5, none⟩ (.int .u32 (wd 0 2 : Nat))).setCell ⟨w.heap.size, 6, none⟩ (.int .u32 (wd 0 3 : Nat)))).setCell ⟨w.heap.size, 7, none⟩ (.slice ad0 l0.length cap0)) := below8 (bel2 hb0 hbk) 1 (fr : Int) (rd : Int) 0 (.slice ad0 l0.length cap0); obtain ⟨U, hU⟩ : ∃ U, ((((((((u1.setCell ⟨w.heap.size, 0, none⟩ (.int .i64 (1 : Int))).setCell ⟨w.heap.size, 1, none⟩ (.int .i64 (fr : Int))).setCell ⟨w.heap.size, 2, none⟩ (.int .i64 (rd : Int))).setCell ⟨w.heap.size, 3, none⟩ (.int .u32 (wd 0 0 : Nat))).setCell ⟨w.heap.size, 4, none⟩ (.int .u32 (wd 0 1 : Nat))).setCell ⟨w.heap.size, 5, none⟩ (.int .u32 (wd 0 2 : Nat))).setCell ⟨w.heap.size, 6, none⟩ (.int .u32 (wd 0 3 : Nat)))).setCell ⟨w.heap.size, 7, none⟩ (.slice ad0 l0.length cap0) = U := ⟨_, rfl⟩; rw [hU] at hBU hbU; obtain ⟨d0, d1, d2, d3, d4, d5, d6, d7⟩ := hBU.cells; have hRU := w0.carry hbU) | (go_at_call 11; (with_reducible refine (hlay _).mono ?_); rintro e u2 ⟨rfl, hb2⟩; have hbU2 := bel2 hbU hb2; have hBU2 := hBU.below hb2; have hRU2 := hRU.carry hb2) | (go_at_call 19; (with_reducible refine (hbyg _ _ _ hRU2).mono ?_); rintro e u3 ⟨g, c2x, rfl, hl3, hg3, hat3, ho3, hb3⟩; have hbU3 := bel2 hbU2 hb3; have hgU : w.heap.size ≤ g := Nat.le_trans hbU2.size hg3; have hgV : g < u3.heap.size := own_lt ho3 g rfl; have hkc : kk ≤ c2x := (by omega); have hkci : (kk : Int) ≤ (c2x : Int) := (by omega)) | (go_at_call 12; (with_reducible refine (hdc _ g c2x hgV hkc hat3).mono ?_); rintro e u4 ⟨rfl, hb4⟩; have hbU4 := bel2 hbU3 hb4; have hat4 : BAt u4 g 0 B := hat3.carry (hb4.block g hgV); have hsz4 : w.heap.size ≤ u4.heap.size := hbU4.size) | (at_builtin; refine wpList_append_own_at _ rfl _ _ 30 rfl w.heap.size 5 ic _ 1 1 Try.underlying30 hic hz0 hz1 hz2 rfl (by decide) _ B.length (cB B) rfl ho6' aS l3.length cap3 (cB l3) rfl (by rw [cB_len, Nat.mul_one]) (hsrc _ h36) (cB_one l3) (by unfold maxLen; omega) (by omega) hsz6 ?_; intro v7 u7 ho7x hg7 _ _; have hb7 : Below w.heap.size w u7 := hb6.grown hg7 hsz6 (fun q e => own_block ho6' q e); have ho7 : u7.ownsRow w.heap.size 5 1 v7 (B ++ l3).length (cB (B ++ l3)) := (by rw [cB_app, List.length_append]; exact ho7x)) | (at_builtin; refine wpList_append_own_at _ rfl _ _ 30 rfl w.heap.size 5 ic _ 1 1 Try.underlying30 hic hz0 hz1 hz2 rfl (by decide) _ 0 [] rfl (World.ownsRow_nil _ _ _ _) ⟨g, 0, none⟩ B.length c2x (cB B) rfl (by rw [cB_len, Nat.mul_one]) (b_src hat4) (cB_one B) (by unfold maxLen; omega) (by omega) hsz4 ?_; intro v6 u6 ho6 hg6 _ _; have hb6 : Below w.heap.size w u6 := hbU4.grown hg6 hsz4 (fun q e => by cases e); have ho6' : u6.ownsRow w.heap.size 5 1 v6 B.length (cB B) := (by simpa using ho6); have hsz6 := hb6.size; have h36 := h3w.carry hb6) | (go_at_call 12; (with_reducible refine (hdl _ _ ho7).mono ?_); rintro e u8 ⟨a, c, rfl, hb8⟩; have hbU8 := bel2 hb7 hb8) | (go_at_call 10; (with_reducible refine (hal _).mono ?_); rintro e wv ⟨rfl, hbv⟩))
          go_ret
          exact ⟨rfl, bel2 hbU8 hbv⟩
      · have hl3i : ((l3.length : Int) == 0) = false := by have := List.length_pos_iff.2 hne; simp; omega
        obtain ⟨bS, oS, rfl, _, _⟩ := w3 hne
        obtain ⟨aS, haS⟩ : ∃ aS : Addr, (⟨bS, oS, none⟩ : Addr) = aS := ⟨_, rfl⟩
        rw [haS]
        rw [haS] at h3w
        have hsrc : ∀ W, RdB W (some aS) l3 → ∀ j u, (cB l3)[j]? = some u → W.cell? (aS.add j) = some u := fun W hW j u hj => by
          obtain ⟨b', o', e, _, hat⟩ := hW hne
          cases e
          exact b_src hat j u hj
        have hdl : ∀ (W : World) (v : Value), W.ownsRow w.heap.size 5 1 v (B ++ l3).length (cB (B ++ l3)) → Calls Try.prog 12 #[v, .int .i64 (n : Int)] W fun e w' => e = .returned (.tuple #[.nilIface, .int .i64 2]) ∧ Below W.heap.size W w' := fun W v ho => by
          obtain ⟨ad, cap, rfl, hr⟩ := RdB.own ho
          have hcap : (B ++ l3).length ≤ cap := by
            rcases own_form ho with ⟨e1, e2⟩ | ⟨g, c, e1, _, _, e4⟩
            · omega
            · cases e1; exact e4
          have := decode_any ad cap (B ++ l3) (n : Int) W hr (hBB.append hb3) hcap
          unfold DcO at this
          rw [hmore hne] at this
          exact this
        clear hmore hsame hcut hBB
        go_enter Try.func6, Try.ntmps6
        go_wp2_with (first | (go_at_call 9; (with_reducible refine hki.mono ?_); rintro e u1 ⟨rfl, hbk⟩; have hB1 := hB0.below hbk; obtain ⟨e0, e1, e2, e3, e4, e5, e6, e7⟩ := hB1.cells; obtain ⟨z0, z1, z2, z3, z4, z5, z6, z7⟩ := hB1.thaw; have hBU : RB (((((((((u1.setCell ⟨w.heap.size, 0, none⟩ (.int .i64 (1 : Int))).setCell ⟨w.heap.size, 1, none⟩ (.int .i64 (fr : Int))).setCell ⟨w.heap.size, 2, none⟩ (.int .i64 (rd : Int))).setCell ⟨w.heap.size, 3, none⟩ (.int .u32 (wd 0 0 : Nat))).setCell ⟨w.heap.size, 4, none⟩ (.int .u32 (wd 0 1 : Nat))).setCell ⟨w.heap.size, 5, none⟩ (.int .u32 (wd 0 2 : Nat))).setCell ⟨w.heap.size, 6, none⟩ (.int .u32 (wd 0 3 : Nat)))).setCell ⟨w.heap.size, 7, none⟩ (.slice ad0 l0.length cap0)) w.heap.size 1 (fr : Int) (rd : Int) 0 (.slice ad0 l0.length cap0) := hB1.set8 1 (fr : Int) (rd : Int) 0 (.slice ad0 l0.length cap0); have hbU : Below w.heap.size w (((((((((u1.setCell ⟨w.heap.size, 0, none⟩ (.int .i64 (1 : Int))).setCell ⟨w.heap.size, 1, none⟩ (.int .i64 (fr : Int))).setCell ⟨w.heap.size, 2, none⟩ (.int .i64 (rd : Int))).setCell ⟨w.heap.size, 3, none⟩ (.int .u32 (wd 0 0 : Nat))).setCell ⟨w.heap.size, 4, none⟩ (.int .u32 (wd 0 1 : Nat))).setCell ⟨w.heap.size, 5, none⟩ (.int .u32 (wd 0 2 : Nat))).setCell ⟨w.heap.size, 6, none⟩ (.int .u32 (wd 0 3 : Nat)))).setCell ⟨w.heap.size, 7, none⟩ (.slice ad0 l0.length cap0)) := below8 (bel2 hb0 hbk) 1 (fr : Int) (rd : Int) 0 (.slice ad0 l0.length cap0); obtain ⟨U, hU⟩ : ∃ U, ((((((((u1.setCell ⟨w.heap.size, 0, none⟩ (.int .i64 (1 : Int))).setCell ⟨w.heap.size, 1, none⟩ (.int .i64 (fr : Int))).setCell ⟨w.heap.size, 2, none⟩ (.int .i64 (rd : Int))).setCell ⟨w.heap.size, 3, none⟩ (.int .u32 (wd 0 0 : Nat))).setCell ⟨w.heap.size, 4, none⟩ (.int .u32 (wd 0 1 : Nat))).setCell ⟨w.heap.size, 5, none⟩ (.int .u32 (wd 0 2 : Nat))).setCell ⟨w.heap.size, 6, none⟩ (.int .u32 (wd 0 3 : Nat)))).setCell ⟨w.heap.size, 7, none⟩ (.slice ad0 l0.length cap0) = U := ⟨_, rfl⟩; rw [hU] at hBU hbU; obtain ⟨d0, d1, d2, d3, d4, d5, d6, d7⟩ := hBU.cells; have hRU := w0.carry hbU) | (go_at_call 11; (with_reducible refine (hlay _).mono ?_); rintro e u2 ⟨rfl, hb2⟩; have hbU2 := bel2 hbU hb2; have hBU2 := hBU.below hb2; have hRU2 := hRU.carry hb2) | (go_at_call 19; (with_reducible refine (hbyg _ _ _ hRU2).mono ?_); rintro e u3 ⟨g, c2x, rfl, hl3, hg3, hat3, ho3, hb3⟩; have hbU3 := bel2 hbU2 hb3; have hgU : w.heap.size ≤ g := Nat.le_trans hbU2.size hg3; have hgV : g < u3.heap.size := own_lt ho3 g rfl; have hkc : kk ≤ c2x := (by omega); have hkci : (kk : Int) ≤ (c2x : Int) := (by omega)) | (go_at_call 12; (with_reducible refine (hdc _ g c2x hgV hkc hat3).mono ?_); rintro e u4 ⟨rfl, hb4⟩; have hbU4 := bel2 hbU3 hb4; have hat4 : BAt u4 g 0 B := hat3.carry (hb4.block g hgV); have hsz4 : w.heap.size ≤ u4.heap.size := hbU4.size) | (at_builtin; refine wpList_append_own_at _ rfl _ _ 30 rfl w.heap.size 5 ic _ 1 1 Try.underlying30 hic hz0 hz1 hz2 rfl (by decide) _ B.length (cB B) rfl ho6' aS l3.length cap3 (cB l3) rfl (by rw [cB_len, Nat.mul_one]) (hsrc _ h36) (cB_one l3) (by unfold maxLen; omega) (by omega) hsz6 ?_; intro v7 u7 ho7x hg7 _ _; have hb7 : Below w.heap.size w u7 := hb6.grown hg7 hsz6 (fun q e => own_block ho6' q e); have ho7 : u7.ownsRow w.heap.size 5 1 v7 (B ++ l3).length (cB (B ++ l3)) := (by rw [cB_app, List.length_append]; exact ho7x)) | (at_builtin; refine wpList_append_own_at _ rfl _ _ 30 rfl w.heap.size 5 ic _ 1 1 Try.underlying30 hic hz0 hz1 hz2 rfl (by decide) _ 0 [] rfl (World.ownsRow_nil _ _ _ _) ⟨g, 0, none⟩ B.length c2x (cB B) rfl (by rw [cB_len, Nat.mul_one]) (b_src hat4) (cB_one B) (by unfold maxLen; omega) (by omega) hsz4 ?_; intro v6 u6 ho6 hg6 _ _; have hb6 : Below w.heap.size w u6 := hbU4.grown hg6 hsz4 (fun q e => by cases e); have ho6' : u6.ownsRow w.heap.size 5 1 v6 B.length (cB B) := (by simpa using ho6); have hsz6 := hb6.size; have h36 := h3w.carry hb6) | (go_at_call 12; (with_reducible refine (hdl _ _ ho7).mono ?_); rintro e u8 ⟨rfl, hb8⟩; have hbU8 := bel2 hb7 hb8) | (go_at_call 10; (with_reducible refine (hal _).mono ?_); rintro e wv ⟨rfl, hbv⟩))
        go_ret
        exact ⟨rfl, bel2 hbU8 hbv⟩
    · obtain ⟨kk, rfl⟩ := Int.eq_ofNat_of_zero_le (show 0 ≤ t by omega)
      have hkk : kk < B.length := by omega
      have hkki : (kk : Int) < (B.length : Int) := by omega
      have hts' : ¬ ((kk : Int) < 0) := by omega
      clear ht1 ht2
      have hdc : ∀ (W : World) (g c2 : Nat), g < W.heap.size → kk ≤ c2 → BAt W g 0 B → Calls Try.prog 12 #[.slice (some ⟨g, 0, none⟩) kk c2, .int .i64 (n : Int)] W fun e w' => e = .returned (.tuple #[.nilIface, .int .i64 76]) ∧ Below W.heap.size W w' := fun W g c2 h1 h2 h3 => by
        have hl : (B.take kk).length = kk := by rw [List.length_take]; omega
        have := decode_any (some ⟨g, 0, none⟩) c2 (B.take kk) (n : Int) W (fun _ => ⟨g, 0, rfl, h1, by have := h3.sub 0 kk; simpa using this⟩) (hBB.take kk) (by rw [hl]; exact h2)
        unfold DcO at this
        rw [hcut kk hkk, hl] at this
        exact this
      have h3w := w3
      by_cases hne : l3 = []
      · have HL3 : Hid (l3 = []) := hne
        have hl3i : ((l3.length : Int) == 0) = true := by rw [hne]; rfl
        clear hne
        cases ad3 with
        | none =>
          have hdl : ∀ (W : World) (v : Value), W.ownsRow w.heap.size 5 1 v (B ++ l3).length (cB (B ++ l3)) → Calls Try.prog 12 #[v, .int .i64 (n : Int)] W fun e w' => ∃ a c, e = .returned (.tuple #[.iface 52 (.agg #[.int .i64 (fr : Int), .int .i64 (rd : Int), .slice a l0.length c]), .int .i64 0]) ∧ Below W.heap.size W w' := fun W v ho => by
            obtain ⟨ad, cap, rfl, hr⟩ := RdB.own ho
            have hcap : (B ++ l3).length ≤ cap := by
              rcases own_form ho with ⟨e1, e2⟩ | ⟨g, c, e1, _, _, e4⟩
              · omega
              · cases e1; exact e4
            have := decode_any ad cap (B ++ l3) (n : Int) W hr (hBB.append hb3) hcap
            unfold DcO at this
            rw [HL3.out, List.append_nil] at this ⊢
            rw [hsame] at this
            refine this.mono ?_
            rintro e W' ⟨a, c, q1, _, q3⟩
            exact ⟨a, c, q1, q3⟩
          clear hmore hsame hcut hBB
          go_enter Try.func6, Try.ntmps6
          go_wp2_with (first | (go_at_call 9; (with_reducible refine hki.mono ?_); rintro e u1 ⟨rfl, hbk⟩; have hB1 := hB0.below hbk; obtain ⟨e0, e1, e2, e3, e4, e5, e6, e7⟩ := hB1.cells; obtain ⟨z0, z1, z2, z3, z4, z5, z6, z7⟩ := hB1.thaw; have hBU : RB (((((((((u1.setCell ⟨w.heap.size, 0, none⟩ (.int .i64 (1 : Int))).setCell ⟨w.heap.size, 1, none⟩ (.int .i64 (fr : Int))).setCell ⟨w.heap.size, 2, none⟩ (.int .i64 (rd : Int))).setCell ⟨w.heap.size, 3, none⟩ (.int .u32 (wd 0 0 : Nat))).setCell ⟨w.heap.size, 4, none⟩ (.int .u32 (wd 0 1 : Nat))).setCell ⟨w.heap.size, 5, none⟩ (.int .u32 (wd 0 2 : Nat))).setCell ⟨w.heap.size, 6, none⟩ (.int .u32 (wd 0 3 : Nat)))).setCell ⟨w.heap.size, 7, none⟩ (.slice ad0 l0.length cap0)) w.heap.size 1 (fr : Int) (rd : Int) 0 (.slice ad0 l0.length cap0) := hB1.set8 1 (fr : Int) (rd : Int) 0 (.slice ad0 l0.length cap0); have hbU : Below w.heap.size w (((((((((u1.setCell ⟨w.heap.size, 0, none⟩ (.int .i64 (1 : Int))).setCell ⟨w.heap.size, 1, none⟩ (.int .i64 (fr : Int))).setCell ⟨w.heap.size, 2, none⟩ (.int .i64 (rd : Int))).setCell ⟨w.heap.size, 3, none⟩ (.int .u32 (wd 0 0 : Nat))).setCell ⟨w.heap.size, 4, none⟩ (.int .u32 (wd 0 1 : Nat))).setCell ⟨w.heap.size, 5, none⟩ (.int .u32 (wd 0 2 : Nat))).setCell ⟨w.heap.size, 6, none⟩ (.int .u32 (wd 0 3 : Nat)))).setCell ⟨w.heap.size, 7, none⟩ (.slice ad0 l0.length cap0)) := below8 (bel2 hb0 hbk) 1 (fr : Int) (rd : Int) 0 (.slice ad0 l0.length cap0); obtain ⟨U, hU⟩ : ∃ U, ((((((((u1.setCell ⟨w.heap.size, 0, none⟩ (.int .i64 (1 : Int))).setCell ⟨w.heap.size, 1, none⟩ (.int .i64 (fr : Int))).setCell ⟨w.heap.size, 2, none⟩ (.int .i64 (rd : Int))).setCell ⟨w.heap.size, 3, none⟩ (.int .u32 (wd 0 0 : Nat))).setCell ⟨w.heap.size, 4, none⟩ (.int .u32 (wd 0 1 : Nat))).setCell ⟨w.heap.size, 5, none⟩ (.int .u32 (wd 0 2 : Nat))).setCell ⟨w.heap.size, 6, none⟩ (.int .u32 (wd 0 3 : Nat)))).setCell ⟨w.heap.size, 7, none⟩ (.slice ad0 l0.length cap0) = U := ⟨_, rfl⟩; rw [hU] at hBU hbU; obtain ⟨d0, d1, d2, d3, d4, d5, d6, d7⟩ := hBU.cells; have hRU := w0.carry hbU) | (go_at_call 11; (with_reducible refine (hlay _).mono ?_); rintro e u2 ⟨rfl, hb2⟩; have hbU2 := bel2 hbU hb2; have hBU2 := hBU.below hb2; have hRU2 := hRU.carry hb2) | (go_at_call 19; (with_reducible refine (hbyg _ _ _ hRU2).mono ?_); rintro e u3 ⟨g, c2x, rfl, hl3, hg3, hat3, ho3, hb3⟩; have hbU3 := bel2 hbU2 hb3; have hgU : w.heap.size ≤ g := Nat.le_trans hbU2.size hg3; have hgV : g < u3.heap.size := own_lt ho3 g rfl; have hkc : kk ≤ c2x := (by omega); have hkci : (kk : Int) ≤ (c2x : Int) := (by omega)) | (go_at_call 12; (with_reducible refine (hdc _ g c2x hgV hkc hat3).mono ?_); rintro e u4 ⟨rfl, hb4⟩; have hbU4 := bel2 hbU3 hb4; have hat4 : BAt u4 g 0 B := hat3.carry (hb4.block g hgV); have hsz4 : w.heap.size ≤ u4.heap.size := hbU4.size) | (at_builtin; refine append_none rfl _ _ 30 rfl w.heap.size 5 ic 1 Try.underlying30 hic _ B.length (cB B) rfl ho6' cap3 l3.length (by rw [HL3.out]; rfl) rfl ?_; have hb7 := hb6; have ho7 : u6.ownsRow w.heap.size 5 1 v6 (B ++ l3).length (cB (B ++ l3)) := (by rw [HL3.out, List.append_nil]; exact ho6')) | (at_builtin; refine wpList_append_own_at _ rfl _ _ 30 rfl w.heap.size 5 ic _ 1 1 Try.underlying30 hic hz0 hz1 hz2 rfl (by decide) _ 0 [] rfl (World.ownsRow_nil _ _ _ _) ⟨g, 0, none⟩ B.length c2x (cB B) rfl (by rw [cB_len, Nat.mul_one]) (b_src hat4) (cB_one B) (by unfold maxLen; omega) (by omega) hsz4 ?_; intro v6 u6 ho6 hg6 _ _; have hb6 : Below w.heap.size w u6 := hbU4.grown hg6 hsz4 (fun q e => by cases e); have ho6' : u6.ownsRow w.heap.size 5 1 v6 B.length (cB B) := (by simpa using ho6); have hsz6 := hb6.size; have h36 := h3w.carry hb6) | (go_at_call 12; (with_reducible refine (hdl _ _ ho7).mono ?_); rintro e u8 ⟨a, c, rfl, hb8⟩; have hbU8 := bel2 hb7 hb8) | (go_at_call 10; (with_reducible refine (hal _).mono ?_); rintro e wv ⟨rfl, hbv⟩))
          go_ret
          exact ⟨rfl, bel2 hbU8 hbv⟩
        | some aS =>
          have hsrc : ∀ W, RdB W (some aS) l3 → ∀ j u, (cB l3)[j]? = some u → W.cell? (aS.add j) = some u := fun W _ j u hj => by rw [HL3.out] at hj; simp [cB] at hj
          have hdl : ∀ (W : World) (v : Value), W.ownsRow w.heap.size 5 1 v (B ++ l3).length (cB (B ++ l3)) → Calls Try.prog 12 #[v, .int .i64 (n : Int)] W fun e w' => ∃ a c, e = .returned (.tuple #[.iface 52 (.agg #[.int .i64 (fr : Int), .int .i64 (rd : Int), .slice a l0.length c]), .int .i64 0]) ∧ Below W.heap.size W w' := fun W v ho => by
            obtain ⟨ad, cap, rfl, hr⟩ := RdB.own ho
            have hcap : (B ++ l3).length ≤ cap := by
              rcases own_form ho with ⟨e1, e2⟩ | ⟨g, c, e1, _, _, e4⟩
              · omega
              · cases e1; exact e4
            have := decode_any ad cap (B ++ l3) (n : Int) W hr (hBB.append hb3) hcap
            unfold DcO at this
            rw [HL3.out, List.append_nil] at this ⊢
            rw [hsame] at this
            refine this.mono ?_
            rintro e W' ⟨a, c, q1, _, q3⟩
            exact ⟨a, c, q1, q3⟩
          clear hmore hsame hcut hBB
          go_enter Try.func6, Try.ntmps6
          go_wp2_with (first | (go_at_call 9; (with_reducible refine hki.mono ?_); rintro e u1 ⟨rfl, hbk⟩; have hB1 := hB0.below hbk; obtain ⟨e0, e1, e2, e3, e4, e5, e6, e7⟩ := hB1.cells; obtain ⟨z0, z1, z2, z3, z4, z5, z6, z7⟩ := hB1.thaw; have hBU : RB (((((((((u1.setCell ⟨w.heap.size, 0, none⟩ (.int .i64 (1 : Int))).setCell ⟨w.heap.size, 1, none⟩ (.int .i64 (fr : Int))).setCell ⟨w.heap.size, 2, none⟩ (.int .i64 (rd : Int))).setCell ⟨w.heap.size, 3, none⟩ (.int .u32 (wd 0 0 : Nat))).setCell ⟨w.heap.size, 4, none⟩ (.int .u32 (wd 0 1 : Nat))).setCell ⟨w.heap.size, 5, none⟩ (.int .u32 (wd 0 2 : Nat))).setCell ⟨w.heap.size, 6, none⟩ (.int .u32 (wd 0 3 : Nat)))).setCell ⟨w.heap.size, 7, none⟩ (.slice ad0 l0.length cap0)) w.heap.size 1 (fr : Int) (rd : Int) 0 (.slice ad0 l0.length cap0) := hB1.set8 1 (fr : Int) (rd : Int) 0 (.slice ad0 l0.length cap0); have hbU : Below w.heap.size w (((((((((u1.setCell ⟨w.heap.size, 0, none⟩ (.int .i64 (1 : Int))).setCell ⟨w.heap.size, 1, none⟩ (.int .i64 (fr : Int))).setCell ⟨w.heap.size, 2, none⟩ (.int .i64 (rd : Int))).setCell ⟨w.heap.size, 3, none⟩ (.int .u32 (wd 0 0 : Nat))).setCell ⟨w.heap.size, 4, none⟩ (.int .u32 (wd 0 1 : Nat))).setCell ⟨w.heap.size, 5, none⟩ (.int .u32 (wd 0 2 : Nat))).setCell ⟨w.heap.size, 6, none⟩ (.int .u32 (wd 0 3 : Nat)))).setCell ⟨w.heap.size, 7, none⟩ (.slice ad0 l0.length cap0)) := below8 (bel2 hb0 hbk) 1 (fr : Int) (rd : Int) 0 (.slice ad0 l0.length cap0); obtain ⟨U, hU⟩ : ∃ U, ((((((((u1.setCell ⟨w.heap.size, 0, none⟩ (.int .i64 (1 : Int))).setCell ⟨w.heap.size, 1, none⟩ (.int .i64 (fr : Int))).setCell ⟨w.heap.size, 2, none⟩ (.int .i64 (rd : Int))).setCell ⟨w.heap.size, 3, none⟩ (.int .u32 (wd 0 0 : Nat))).setCell ⟨w.heap.size, 4, none⟩ (.int .u32 (wd 0 1 : Nat))).setCell ⟨w.heap.size, 5, none⟩ (.int .u32 (wd 0 2 : Nat))).setCell ⟨w.heap.size, 6, none⟩ (.int .u32 (wd 0 3 : Nat)))).setCell ⟨w.heap.size, 7, none⟩ (.slice ad0 l0.length cap0) = U := ⟨_, rfl⟩; rw [hU] at hBU hbU; obtain ⟨d0, d1, d2, d3, d4, d5, d6, d7⟩ := hBU.cells; have hRU := w0.carry hbU) | (go_at_call 11; (with_reducible refine (hlay _).mono ?_); rintro e u2 ⟨rfl, hb2⟩; have hbU2 := bel2 hbU hb2; have hBU2 := hBU.below hb2; have hRU2 := hRU.carry hb2) | (go_at_call 19; (with_reducible refine (hbyg _ _ _ hRU2).mono ?_); rintro e u3 ⟨g, c2x, rfl, hl3, hg3, hat3, ho3, hb3⟩; have hbU3 := bel2 hbU2 hb3; have hgU : w.heap.size ≤ g := Nat.le_trans hbU2.size hg3; have hgV : g < u3.heap.size := own_lt ho3 g rfl; have hkc : kk ≤ c2x := (by omega); have hkci : (kk : Int) ≤ (c2x : Int) := (by omega)) | (go_at_call 12; (with_reducible refine (hdc _ g c2x hgV hkc hat3).mono ?_); rintro e u4 ⟨rfl, hb4⟩; have hbU4 := bel2 hbU3 hb4; have hat4 : BAt u4 g 0 B := hat3.carry (hb4.block g hgV); have hsz4 : w.heap.size ≤ u4.heap.size := hbU4.size) | (at_builtin; refine wpList_append_own_at _ rfl _ _ 30 rfl w.heap.size 5 ic _ 1 1 Try.underlying30 hic hz0 hz1 hz2 rfl (by decide) _ B.length (cB B) rfl ho6' aS l3.length cap3 (cB l3) rfl (by rw [cB_len, Nat.mul_one]) (hsrc _ h36) (cB_one l3) (by unfold maxLen; omega) (by omega) hsz6 ?_; intro v7 u7 ho7x hg7 _ _; have hb7 : Below w.heap.size w u7 := hb6.grown hg7 hsz6 (fun q e => own_block ho6' q e); have ho7 : u7.ownsRow w.heap.size 5 1 v7 (B ++ l3).length (cB (B ++ l3)) := (by rw [cB_app, List.length_append]; exact ho7x)) | (at_builtin; refine wpList_append_own_at _ rfl _ _ 30 rfl w.heap.size 5 ic _ 1 1 Try.underlying30 hic hz0 hz1 hz2 rfl (by decide) _ 0 [] rfl (World.ownsRow_nil _ _ _ _) ⟨g, 0, none⟩ B.length c2x (cB B) rfl (by rw [cB_len, Nat.mul_one]) (b_src hat4) (cB_one B) (by unfold maxLen; omega) (by omega) hsz4 ?_; intro v6 u6 ho6 hg6 _ _; have hb6 : Below w.heap.size w u6 := hbU4.grown hg6 hsz4 (fun q e => by cases e); have ho6' : u6.ownsRow w.heap.size 5 1 v6 B.length (cB B) := (by simpa using ho6); have hsz6 := hb6.size; have h36 := h3w.carry hb6) | (go_at_call 12; (with_reducible refine (hdl _ _ ho7).mono ?_); rintro e u8 ⟨a, c, rfl, hb8⟩; have hbU8 := bel2 hb7 hb8) | (go_at_call 10; (with_reducible refine (hal _).mono ?_); rintro e wv ⟨rfl, hbv⟩))
          go_ret
          exact ⟨rfl, bel2 hbU8 hbv⟩
      · have hl3i : ((l3.length : Int) == 0) = false := by have := List.length_pos_iff.2 hne; simp; omega
        obtain ⟨bS, oS, rfl, _, _⟩ := w3 hne
        obtain ⟨aS, haS⟩ : ∃ aS : Addr, (⟨bS, oS, none⟩ : Addr) = aS := ⟨_, rfl⟩
        rw [haS]
        rw [haS] at h3w
        have hsrc : ∀ W, RdB W (some aS) l3 → ∀ j u, (cB l3)[j]? = some u → W.cell? (aS.add j) = some u := fun W hW j u hj => by
          obtain ⟨b', o', e, _, hat⟩ := hW hne
          cases e
          exact b_src hat j u hj
        have hdl : ∀ (W : World) (v : Value), W.ownsRow w.heap.size 5 1 v (B ++ l3).length (cB (B ++ l3)) → Calls Try.prog 12 #[v, .int .i64 (n : Int)] W fun e w' => e = .returned (.tuple #[.nilIface, .int .i64 2]) ∧ Below W.heap.size W w' := fun W v ho => by
          obtain ⟨ad, cap, rfl, hr⟩ := RdB.own ho
          have hcap : (B ++ l3).length ≤ cap := by
            rcases own_form ho with ⟨e1, e2⟩ | ⟨g, c, e1, _, _, e4⟩
            · omega
            · cases e1; exact e4
          have := decode_any ad cap (B ++ l3) (n : Int) W hr (hBB.append hb3) hcap
          unfold DcO at this
          rw [hmore hne] at this
          exact this
        clear hmore hsame hcut hBB
        go_enter Try.func6, Try.ntmps6
        go_wp2_with (first | (go_at_call 9; (with_reducible refine hki.mono ?_); rintro e u1 ⟨rfl, hbk⟩; have hB1 := hB0.below hbk; obtain ⟨e0, e1, e2, e3, e4, e5, e6, e7⟩ := hB1.cells; obtain ⟨z0, z1, z2, z3, z4, z5, z6, z7⟩ := hB1.thaw; have hBU : RB (((((((((u1.setCell ⟨w.heap.size, 0, none⟩ (.int .i64 (1 : Int))).setCell ⟨w.heap.size, 1, none⟩ (.int .i64 (fr : Int))).setCell ⟨w.heap.size, 2, none⟩ (.int .i64 (rd : Int))).setCell ⟨w.heap.size, 3, none⟩ (.int .u32 (wd 0 0 : Nat))).setCell ⟨w.heap.size, 4, none⟩ (.int .u32 (wd 0 1 : Nat))).setCell ⟨w.heap.size, 5, none⟩ (.int .u32 (wd 0 2 : Nat))).setCell ⟨w.heap.size, 6, none⟩ (.int .u32 (wd 0 3 : Nat)))).setCell ⟨w.heap.size, 7, none⟩ (.slice ad0 l0.length cap0)) w.heap.size 1 (fr : Int) (rd : Int) 0 (.slice ad0 l0.length cap0) := hB1.set8 1 (fr : Int) (rd : Int) 0 (.slice ad0 l0.length cap0); have hbU : Below w.heap.size w (((((((((u1.setCell ⟨w.heap.size, 0, none⟩ (.int .i64 (1 : Int))).setCell ⟨w.heap.size, 1, none⟩ (.int .i64 (fr : Int))).setCell ⟨w.heap.size, 2, none⟩ (.int .i64 (rd : Int))).setCell ⟨w.heap.size, 3, none⟩ (.int .u32 (wd 0 0 : Nat))).setCell ⟨w.heap.size, 4, none⟩ (.int .u32 (wd 0 1 : Nat))).setCell ⟨w.heap.size, 5, none⟩ (.int .u32 (wd 0 2 : Nat))).setCell ⟨w.heap.size, 6, none⟩ (.int .u32 (wd 0 3 : Nat)))).setCell ⟨w.heap.size, 7, none⟩ (.slice ad0 l0.length cap0)) := below8 (bel2 hb0 hbk) 1 (fr : Int) (rd : Int) 0 (.slice ad0 l0.length cap0); obtain ⟨U, hU⟩ : ∃ U, ((((((((u1.setCell ⟨w.heap.size, 0, none⟩ (.int .i64 (1 : Int))).setCell ⟨w.heap.size, 1, none⟩ (.int .i64 (fr : Int))).setCell ⟨w.heap.size, 2, none⟩ (.int .i64 (rd : Int))).setCell ⟨w.heap.size, 3, none⟩ (.int .u32 (wd 0 0 : Nat))).setCell ⟨w.heap.size, 4, none⟩ (.int .u32 (wd 0 1 : Nat))).setCell ⟨w.heap.size, 5, none⟩ (.int .u32 (wd 0 2 : Nat))).setCell ⟨w.heap.size, 6, none⟩ (.int .u32 (wd 0 3 : Nat)))).setCell ⟨w.heap.size, 7, none⟩ (.slice ad0 l0.length cap0) = U := ⟨_, rfl⟩; rw [hU] at hBU hbU; obtain ⟨d0, d1, d2, d3, d4, d5, d6, d7⟩ := hBU.cells; have hRU := w0.carry hbU) | (go_at_call 11; (with_reducible refine (hlay _).mono ?_); rintro e u2 ⟨rfl, hb2⟩; have hbU2 := bel2 hbU hb2; have hBU2 := hBU.below hb2; have hRU2 := hRU.carry hb2) | (go_at_call 19; (with_reducible refine (hbyg _ _ _ hRU2).mono ?_); rintro e u3 ⟨g, c2x, rfl, hl3, hg3, hat3, ho3, hb3⟩; have hbU3 := bel2 hbU2 hb3; have hgU : w.heap.size ≤ g := Nat.le_trans hbU2.size hg3; have hgV : g < u3.heap.size := own_lt ho3 g rfl; have hkc : kk ≤ c2x := (by omega); have hkci : (kk : Int) ≤ (c2x : Int) := (by omega)) | (go_at_call 12; (with_reducible refine (hdc _ g c2x hgV hkc hat3).mono ?_); rintro e u4 ⟨rfl, hb4⟩; have hbU4 := bel2 hbU3 hb4; have hat4 : BAt u4 g 0 B := hat3.carry (hb4.block g hgV); have hsz4 : w.heap.size ≤ u4.heap.size := hbU4.size) | (at_builtin; refine wpList_append_own_at _ rfl _ _ 30 rfl w.heap.size 5 ic _ 1 1 Try.underlying30 hic hz0 hz1 hz2 rfl (by decide) _ B.length (cB B) rfl ho6' aS l3.length cap3 (cB l3) rfl (by rw [cB_len, Nat.mul_one]) (hsrc _ h36) (cB_one l3) (by unfold maxLen; omega) (by omega) hsz6 ?_; intro v7 u7 ho7x hg7 _ _; have hb7 : Below w.heap.size w u7 := hb6.grown hg7 hsz6 (fun q e => own_block ho6' q e); have ho7 : u7.ownsRow w.heap.size 5 1 v7 (B ++ l3).length (cB (B ++ l3)) := (by rw [cB_app, List.length_append]; exact ho7x)) | (at_builtin; refine wpList_append_own_at _ rfl _ _ 30 rfl w.heap.size 5 ic _ 1 1 Try.underlying30 hic hz0 hz1 hz2 rfl (by decide) _ 0 [] rfl (World.ownsRow_nil _ _ _ _) ⟨g, 0, none⟩ B.length c2x (cB B) rfl (by rw [cB_len, Nat.mul_one]) (b_src hat4) (cB_one B) (by unfold maxLen; omega) (by omega) hsz4 ?_; intro v6 u6 ho6 hg6 _ _; have hb6 : Below w.heap.size w u6 := hbU4.grown hg6 hsz4 (fun q e => by cases e); have ho6' : u6.ownsRow w.heap.size 5 1 v6 B.length (cB B) := (by simpa using ho6); have hsz6 := hb6.size; have h36 := h3w.carry hb6) | (go_at_call 12; (with_reducible refine (hdl _ _ ho7).mono ?_); rintro e u8 ⟨rfl, hb8⟩; have hbU8 := bel2 hb7 hb8) | (go_at_call 10; (with_reducible refine (hal _).mono ?_); rintro e wv ⟨rfl, hbv⟩))
        go_ret
        exact ⟨rfl, bel2 hbU8 hbv⟩
  · have hlay : ∀ W, Calls Try.prog 11 #[.agg #[.int .i64 2, .int .i64 f0, .int .i64 r, .int .u32 (wd N 0 : Nat), .int .u32 (wd N 1 : Nat), .int .u32 (wd N 2 : Nat), .int .u32 (wd N 3 : Nat), .slice ad0 l0.length cap0]] W fun e w' => e = .returned (.iface 55 (.agg #[.int .i64 f0, .int .i64 r, .int .u32 (wd N 0 : Nat), .int .u32 (wd N 1 : Nat), .int .u32 (wd N 2 : Nat), .int .u32 (wd N 3 : Nat), .slice ad0 l0.length cap0])) ∧ Below W.heap.size W w' := fun W => lay_any 2 f0 r N ad0 l0.length cap0 W
    have i1 := invP_Bytes
    by_cases hf : flt 2 a1 f0 r N l0 = 0
    case neg =>
      have hby : ∀ (W : World) (a : Option Addr) (c : Nat), RdN W a l0 → Calls Try.prog 79 #[.agg #[.int .i64 f0, .int .i64 r, .int .u32 (wd N 0 : Nat), .int .u32 (wd N 1 : Nat), .int .u32 (wd N 2 : Nat), .int .u32 (wd N 3 : Nat), .slice a l0.length c], .int .i64 a1] W fun e W' => ∃ b2 c2, e = .returned (.tuple #[.slice b2 0 c2, .int .i64 (flt 2 a1 f0 r N l0)]) ∧ Below W.heap.size W W' := fun W a c hr => (pbytes_any a1 f0 r N hN a c l0 W hr (by omega)).mono (fun e W' q => bo_no q hf)
      have hfi : (flt 2 a1 f0 r N l0 != 0) = true := by simpa using hf
      generalize flt 2 a1 f0 r N l0 = FV at *
      clear hf
      go_enter Try.func6, Try.ntmps6
      go_wp2_with (first | (go_at_call 9; (with_reducible refine hki.mono ?_); rintro e u1 ⟨rfl, hbk⟩; have hB1 := hB0.below hbk; obtain ⟨e0, e1, e2, e3, e4, e5, e6, e7⟩ := hB1.cells; obtain ⟨z0, z1, z2, z3, z4, z5, z6, z7⟩ := hB1.thaw; have hBU : RB (((((((((u1.setCell ⟨w.heap.size, 0, none⟩ (.int .i64 (2 : Int))).setCell ⟨w.heap.size, 1, none⟩ (.int .i64 f0)).setCell ⟨w.heap.size, 2, none⟩ (.int .i64 r)).setCell ⟨w.heap.size, 3, none⟩ (.int .u32 (wd N 0 : Nat))).setCell ⟨w.heap.size, 4, none⟩ (.int .u32 (wd N 1 : Nat))).setCell ⟨w.heap.size, 5, none⟩ (.int .u32 (wd N 2 : Nat))).setCell ⟨w.heap.size, 6, none⟩ (.int .u32 (wd N 3 : Nat)))).setCell ⟨w.heap.size, 7, none⟩ (.slice ad0 l0.length cap0)) w.heap.size 2 f0 r N (.slice ad0 l0.length cap0) := hB1.set8 2 f0 r N (.slice ad0 l0.length cap0); have hbU : Below w.heap.size w (((((((((u1.setCell ⟨w.heap.size, 0, none⟩ (.int .i64 (2 : Int))).setCell ⟨w.heap.size, 1, none⟩ (.int .i64 f0)).setCell ⟨w.heap.size, 2, none⟩ (.int .i64 r)).setCell ⟨w.heap.size, 3, none⟩ (.int .u32 (wd N 0 : Nat))).setCell ⟨w.heap.size, 4, none⟩ (.int .u32 (wd N 1 : Nat))).setCell ⟨w.heap.size, 5, none⟩ (.int .u32 (wd N 2 : Nat))).setCell ⟨w.heap.size, 6, none⟩ (.int .u32 (wd N 3 : Nat)))).setCell ⟨w.heap.size, 7, none⟩ (.slice ad0 l0.length cap0)) := below8 (bel2 hb0 hbk) 2 f0 r N (.slice ad0 l0.length cap0); obtain ⟨U, hU⟩ : ∃ U, ((((((((u1.setCell ⟨w.heap.size, 0, none⟩ (.int .i64 (2 : Int))).setCell ⟨w.heap.size, 1, none⟩ (.int .i64 f0)).setCell ⟨w.heap.size, 2, none⟩ (.int .i64 r)).setCell ⟨w.heap.size, 3, none⟩ (.int .u32 (wd N 0 : Nat))).setCell ⟨w.heap.size, 4, none⟩ (.int .u32 (wd N 1 : Nat))).setCell ⟨w.heap.size, 5, none⟩ (.int .u32 (wd N 2 : Nat))).setCell ⟨w.heap.size, 6, none⟩ (.int .u32 (wd N 3 : Nat)))).setCell ⟨w.heap.size, 7, none⟩ (.slice ad0 l0.length cap0) = U := ⟨_, rfl⟩; rw [hU] at hBU hbU; obtain ⟨d0, d1, d2, d3, d4, d5, d6, d7⟩ := hBU.cells; have hRU := w0.carry hbU) | (go_at_call 11; (with_reducible refine (hlay _).mono ?_); rintro e u2 ⟨rfl, hb2⟩; have hbU2 := bel2 hbU hb2; have hBU2 := hBU.below hb2; have hRU2 := hRU.carry hb2) | (go_at_call 79; (with_reducible refine (hby _ _ _ hRU2).mono ?_); rintro e u3 ⟨b2, c2x, rfl, hb3⟩) | (go_at_call 10; (with_reducible refine (hal _).mono ?_); rintro e wv ⟨rfl, hbv⟩))
      go_ret
      exact ⟨rfl, bel2 (bel2 hbU2 hb3) hbv⟩
    obtain ⟨hn, hfr, hrd, _, hri⟩ := flt_0 hf
    obtain ⟨fr, rfl⟩ := Int.eq_ofNat_of_zero_le hfr.1
    obtain ⟨n, rfl⟩ := Int.eq_ofNat_of_zero_le (show 0 ≤ a1 by omega)
    obtain ⟨rd, rfl⟩ := Int.eq_ofNat_of_zero_le (show 0 ≤ r by omega)
    have hdo := dec_of (n := n) (fr := fr) (rd := rd) (N := N) (l := l0) (show 1 ≤ 2 ∧ 2 ≤ 3 by decide) hf (fun e => absurd e (by decide)) (fun e => absurd rfl e)
    obtain ⟨B, hB⟩ : ∃ B, byt7 2 n fr rd N l0 = B := ⟨_, rfl⟩
    have hBB : Byt B := hB ▸ byt7_byt _ _ _ _ _ _
    have hBs : B.length ≤ 1024 := by rw [← hB]; exact byt7_short hf
    have hby : ∀ (W : World) (a : Option Addr) (c : Nat), RdN W a l0 → Calls Try.prog 79 #[.agg #[.int .i64 (fr : Int), .int .i64 (rd : Int), .int .u32 (wd N 0 : Nat), .int .u32 (wd N 1 : Nat), .int .u32 (wd N 2 : Nat), .int .u32 (wd N 3 : Nat), .slice a l0.length c], .int .i64 (n : Int)] W fun e W' => ∃ b2 c2, e = .returned (.tuple #[.slice b2 B.length c2, .int .i64 0]) ∧ RdB W' b2 B ∧ B.length ≤ c2 ∧ W'.ownsRow W.heap.size 5 1 (.slice b2 B.length c2) B.length (cB B) ∧ Below W.heap.size W W' := fun W a c hr => (pbytes_any (n : Int) fr rd N hN a c l0 W hr (by omega)).mono (by
      intro e W' q
      obtain ⟨b2, c2, q1, q5, q2, q4, q3⟩ := bo_ok q hf
      rw [Int.toNat_natCast, hB] at q1 q2 q4 q5
      exact ⟨b2, c2, q1, q2, q4, q5, q3⟩)
    have hB10 : 9 ≤ B.length := by
      have h1 : 5 ≤ (frm 2 n fr rd N l0).length := by unfold frm; simp only [List.length_append, List.length_cons]; omega
      rw [← hB, byt7_len]
      omega
    have hbyg : ∀ (W : World) (a : Option Addr) (c : Nat), RdN W a l0 → Calls Try.prog 79 #[.agg #[.int .i64 (fr : Int), .int .i64 (rd : Int), .int .u32 (wd N 0 : Nat), .int .u32 (wd N 1 : Nat), .int .u32 (wd N 2 : Nat), .int .u32 (wd N 3 : Nat), .slice a l0.length c], .int .i64 (n : Int)] W fun e W' => ∃ g c2, e = .returned (.tuple #[.slice (some ⟨g, 0, none⟩) B.length c2, .int .i64 0]) ∧ B.length ≤ c2 ∧ W.heap.size ≤ g ∧ BAt W' g 0 B ∧ W'.ownsRow W.heap.size 5 1 (.slice (some ⟨g, 0, none⟩) B.length c2) B.length (cB B) ∧ Below W.heap.size W W' := fun W a c hr => (hby W a c hr).mono (by
      rintro e W' ⟨b2, c2, q1, q2, q3, q4, q5⟩
      rcases own_form q4 with ⟨_, e2⟩ | ⟨g, c, e1, e2, e3, e4⟩
      · omega
      · cases e1
        exact ⟨g, _, q1, q3, e2, b_own q4 rfl, q4, q5⟩)
    have hLi : ¬ (B.length : Int) = 0 := by omega
    have hLe : ((B.length : Int) == 0) = false := by simpa using hLi
    obtain ⟨t, ht⟩ : ∃ t, a2.tmod (B.length : Int) = t := ⟨_, rfl⟩
    have ht1 : t < (B.length : Int) := by rw [← ht]; exact Int.tmod_lt_of_pos _ (by omega)
    have ht2 : -(B.length : Int) < t := by
      have := Int.tmod_lt_of_pos (-a2) (show 0 < (B.length : Int) by omega)
      rw [Int.neg_tmod, ht] at this
      omega
    have hcut : ∀ kk : Nat, kk < B.length → dec (n : Int) (B.take kk) = .error 76 := fun kk hkk => by
      have := dec_cut (kd := 2) (n := n) (fr := fr) (rd := rd) (N := N) (l := l0) (by decide) hf (fun e => absurd e (by decide)) (fun e => absurd rfl e) (m := kk) (by rw [hB]; exact hkk)
      rwa [hB] at this
    have hmore : l3 ≠ [] → dec (n : Int) (B ++ l3) = .error 2 := fun hne => by
      have := dec_more (kd := 2) (n := n) (fr := fr) (rd := rd) (N := N) (l := l0) (by decide) hf (fun e => absurd e (by decide)) (fun e => absurd rfl e) hne
      rwa [hB] at this
    have hsame : dec (n : Int) B = .ok (2, fr, rd, N, l0) := by rw [← hB]; exact hdo
    obtain ⟨ic, hic, hz0, hz1, hz2⟩ := info_partsB
    clear hdo hB hf hrd hri hfr hn hk hk3 hk2
    by_cases hts : t < 0
    · obtain ⟨kk, hkk0⟩ := Int.eq_ofNat_of_zero_le (show 0 ≤ t + (B.length : Int) by omega)
      have hkk : kk < B.length := by omega
      have hkki : (kk : Int) < (B.length : Int) := by omega
      clear ht1 ht2
      have hdc : ∀ (W : World) (g c2 : Nat), g < W.heap.size → kk ≤ c2 → BAt W g 0 B → Calls Try.prog 12 #[.slice (some ⟨g, 0, none⟩) kk c2, .int .i64 (n : Int)] W fun e w' => e = .returned (.tuple #[.nilIface, .int .i64 76]) ∧ Below W.heap.size W w' := fun W g c2 h1 h2 h3 => by
        have hl : (B.take kk).length = kk := by rw [List.length_take]; omega
        have := decode_any (some ⟨g, 0, none⟩) c2 (B.take kk) (n : Int) W (fun _ => ⟨g, 0, rfl, h1, by have := h3.sub 0 kk; simpa using this⟩) (hBB.take kk) (by rw [hl]; exact h2)
        unfold DcO at this
        rw [hcut kk hkk, hl] at this
        exact this
      have h3w := w3
      by_cases hne : l3 = []
      · have HL3 : Hid (l3 = []) := hne
        have hl3i : ((l3.length : Int) == 0) = true := by rw [hne]; rfl
        clear hne
        cases ad3 with
        | none =>
          have hdl : ∀ (W : World) (v : Value), W.ownsRow w.heap.size 5 1 v (B ++ l3).length (cB (B ++ l3)) → Calls Try.prog 12 #[v, .int .i64 (n : Int)] W fun e w' => ∃ a c, e = .returned (.tuple #[.iface 55 (.agg #[.int .i64 (fr : Int), .int .i64 (rd : Int), .int .u32 (wd N 0 : Nat), .int .u32 (wd N 1 : Nat), .int .u32 (wd N 2 : Nat), .int .u32 (wd N 3 : Nat), .slice a l0.length c]), .int .i64 0]) ∧ Below W.heap.size W w' := fun W v ho => by
            obtain ⟨ad, cap, rfl, hr⟩ := RdB.own ho
            have hcap : (B ++ l3).length ≤ cap := by
              rcases own_form ho with ⟨e1, e2⟩ | ⟨g, c, e1, _, _, e4⟩
              · omega
              · cases e1; exact e4
            have := decode_any ad cap (B ++ l3) (n : Int) W hr (hBB.append hb3) hcap
            unfold DcO at this
            rw [HL3.out, List.append_nil] at this ⊢
            rw [hsame] at this
            refine this.mono ?_
            rintro e W' ⟨a, c, q1, _, q3⟩
            exact ⟨a, c, q1, q3⟩
          clear hmore hsame hcut hBB
          go_enter Try.func6, Try.ntmps6
          go_wp2_with (first | (go_at_call 9; (with_reducible refine hki.mono ?_); rintro e u1 ⟨rfl, hbk⟩; have hB1 := hB0.below hbk; obtain ⟨e0, e1, e2, e3, e4, e5, e6, e7⟩ := hB1.cells; obtain ⟨z0, z1, z2, z3, z4, z5, z6, z7⟩ := hB1.thaw; have hBU : RB (((((((((u1.setCell ⟨w.heap.size, 0, none⟩ (.int .i64 (2 : Int))).setCell ⟨w.heap.size, 1, none⟩ (.int .i64 (fr : Int))).setCell ⟨w.heap.size, 2, none⟩ (.int .i64 (rd : Int))).setCell ⟨w.heap.size, 3, none⟩ (.int .u32 (wd N 0 : Nat))).setCell ⟨w.heap.size, 4, none⟩ (.int .u32 (wd N 1 : Nat))).setCell ⟨w.heap.size, 5, none⟩ (.int .u32 (wd N 2 : Nat))).setCell ⟨w.heap.size, 6, none⟩ (.int .u32 (wd N 3 : Nat)))).setCell ⟨w.heap.size, 7, none⟩ (.slice ad0 l0.length cap0)) w.heap.size 2 (fr : Int) (rd : Int) N (.slice ad0 l0.length cap0) := hB1.set8 2 (fr : Int) (rd : Int) N (.slice ad0 l0.length cap0); have hbU : Below w.heap.size w (((((((((u1.setCell ⟨w.heap.size, 0, none⟩ (.int .i64 (2 : Int))).setCell ⟨w.heap.size, 1, none⟩ (.int .i64 (fr : Int))).setCell ⟨w.heap.size, 2, none⟩ (.int .i64 (rd : Int))).setCell ⟨w.heap.size, 3, none⟩ (.int .u32 (wd N 0 : Nat))).setCell ⟨w.heap.size, 4, none⟩ (.int .u32 (wd N 1 : Nat))).setCell ⟨w.heap.size, 5, none⟩ (.int .u32 (wd N 2 : Nat))).setCell ⟨w.heap.size, 6, none⟩ (.int .u32 (wd N 3 : Nat)))).setCell ⟨w.heap.size, 7, none⟩ (.slice ad0 l0.length cap0)) := below8 (bel2 hb0 hbk) 2 (fr : Int) (rd : Int) N (.slice ad0 l0.length cap0); obtain ⟨U, hU⟩ : ∃ U, ((((((((u1.setCell ⟨w.heap.size, 0, none⟩ (.int .i64 (2 : Int))).setCell ⟨w.heap.size, 1, none⟩ (.int .i64 (fr : Int))).setCell ⟨w.heap.size, 2, none⟩ (.int .i64 (rd : Int))).setCell ⟨w.heap.size, 3, none⟩ (.int .u32 (wd N 0 : Nat))).setCell ⟨w.heap.size, 4, none⟩ (.int .u32 (wd N 1 : Nat))).setCell ⟨w.heap.size, 5, none⟩ (.int .u32 (wd N 2 : Nat))).setCell ⟨w.heap.size, 6, none⟩ (.int .u32 (wd N 3 : Nat)))).setCell ⟨w.heap.size, 7, none⟩ (.slice ad0 l0.length cap0) = U := ⟨_, rfl⟩; rw [hU] at hBU hbU; obtain ⟨d0, d1, d2, d3, d4, d5, d6, d7⟩ := hBU.cells; have hRU := w0.carry hbU) | (go_at_call 11; (with_reducible refine (hlay _).mono ?_); rintro e u2 ⟨rfl, hb2⟩; have hbU2 := bel2 hbU hb2; have hBU2 := hBU.below hb2; have hRU2 := hRU.carry hb2) | (go_at_call 79; (with_reducible refine (hbyg _ _ _ hRU2).mono ?_); rintro e u3 ⟨g, c2x, rfl, hl3, hg3, hat3, ho3, hb3⟩; have hbU3 := bel2 hbU2 hb3; have hgU : w.heap.size ≤ g := Nat.le_trans hbU2.size hg3; have hgV : g < u3.heap.size := own_lt ho3 g rfl; have hkc : kk ≤ c2x := (by omega); have hkci : (kk : Int) ≤ (c2x : Int) := (by omega)) | (go_at_call 12; (with_reducible refine (hdc _ g c2x hgV hkc hat3).mono ?_); rintro e u4 ⟨rfl, hb4⟩; have hbU4 := bel2 hbU3 hb4; have hat4 : BAt u4 g 0 B := hat3.carry (hb4.block g hgV); have hsz4 : w.heap.size ≤ u4.heap.size := hbU4.size) | (at_builtin; refine append_none rfl _ _ 30 rfl w.heap.size 5 ic 1 Try.underlying30 hic _ B.length (cB B) rfl ho6' cap3 l3.length (by rw [HL3.out]; rfl) rfl ?_; have hb7 := hb6; have ho7 : u6.ownsRow w.heap.size 5 1 v6 (B ++ l3).length (cB (B ++ l3)) := (by rw [HL3.out, List.append_nil]; exact ho6')) | (at_builtin; refine wpList_append_own_at _ rfl _ _ 30 rfl w.heap.size 5 ic _ 1 1 Try.underlying30 hic hz0 hz1 hz2 rfl (by decide) _ 0 [] rfl (World.ownsRow_nil _ _ _ _) ⟨g, 0, none⟩ B.length c2x (cB B) rfl (by rw [cB_len, Nat.mul_one]) (b_src hat4) (cB_one B) (by unfold maxLen; omega) (by omega) hsz4 ?_; intro v6 u6 ho6 hg6 _ _; have hb6 : Below w.heap.size w u6 := hbU4.grown hg6 hsz4 (fun q e => by cases e); have ho6' : u6.ownsRow w.heap.size 5 1 v6 B.length (cB B) := (by simpa using ho6); have hsz6 := hb6.size; have h36 := h3w.carry hb6) | (go_at_call 12; (with_reducible refine (hdl _ _ ho7).mono ?_); rintro e u8 ⟨a, c, rfl, hb8⟩; have hbU8 := bel2 hb7 hb8) | (go_at_call 10; (with_reducible refine (hal _).mono ?_); rintro e wv ⟨rfl, hbv⟩))
          go_ret
          exact ⟨rfl, bel2 hbU8 hbv⟩
        | some aS =>
          have hsrc : ∀ W, RdB W (some aS) l3 → ∀ j u, (cB l3)[j]? = some u → W.cell? (aS.add j) = some u := fun W _ j u hj => by rw [HL3.out] at hj; simp [cB] at hj
          have hdl : ∀ (W : World) (v : Value), W.ownsRow w.heap.size 5 1 v (B ++ l3).length (cB (B ++ l3)) → Calls Try.prog 12 #[v, .int .i64 (n : Int)] W fun e w' => ∃ a c, e = .returned (.tuple #[.iface 55 (.agg #[.int .i64 (fr : Int), .int .i64 (rd : Int), .int .u32 (wd N 0 : Nat), .int .u32 (wd N 1 : Nat), .int .u32 (wd N 2 : Nat), .int .u32 (wd N 3 : Nat), .slice a l0.length c]), .int .i64 0]) ∧ Below W.heap.size W w' := fun W v ho => by
            obtain ⟨ad, cap, rfl, hr⟩ := RdB.own ho
            have hcap : (B ++ l3).length ≤ cap := by
              rcases own_form ho with ⟨e1, e2⟩ | ⟨g, c, e1, _, _, e4⟩
              · omega
              · cases e1; exact e4
            have := decode_any ad cap (B ++ l3) (n : Int) W hr (hBB.append hb3) hcap
            unfold DcO at this
            rw [HL3.out, List.append_nil] at this ⊢
            rw [hsame] at this
            refine this.mono ?_
            rintro e W' ⟨a, c, q1, _, q3⟩
            exact ⟨a, c, q1, q3⟩
          clear hmore hsame hcut hBB
          go_enter Try.func6, Try.ntmps6
          go_wp2_with (first | (go_at_call 9; (with_reducible refine hki.mono ?_); rintro e u1 ⟨rfl, hbk⟩; have hB1 := hB0.below hbk; obtain ⟨e0, e1, e2, e3, e4, e5, e6, e7⟩ := hB1.cells; obtain ⟨z0, z1, z2, z3, z4, z5, z6, z7⟩ := hB1.thaw; have hBU : RB (((((((((u1.setCell ⟨w.heap.size, 0, none⟩ (.int .i64 (2 : Int))).setCell ⟨w.heap.size, 1, none⟩ (.int .i64 (fr : Int))).setCell ⟨w.heap.size, 2, none⟩ (.int .i64 (rd : Int))).setCell ⟨w.heap.size, 3, none⟩ (.int .u32 (wd N 0 : Nat))).setCell ⟨w.heap.size, 4, none⟩ (.int .u32 (wd N 1 : Nat))).setCell ⟨w.heap.size, 5, none⟩ (.int .u32 (wd N 2 : Nat))).setCell ⟨w.heap.size, 6, none⟩ (.int .u32 (wd N 3 : Nat)))).setCell ⟨w.heap.size, 7, none⟩ (.slice ad0 l0.length cap0)) w.heap.size 2 (fr : Int) (rd : Int) N (.slice ad0 l0.length cap0) := hB1.set8 2 (fr : Int) (rd : Int) N (.slice ad0 l0.length cap0); have hbU : Below w.heap.size w (((((((((u1.setCell ⟨w.heap.size, 0, none⟩ (.int .i64 (2 : Int))).setCell ⟨w.heap.size, 1, none⟩ (.int .i64 (fr : Int))).setCell ⟨w.heap.size, 2, none⟩ (.int .i64 (rd : Int))).setCell ⟨w.heap.size, 3, none⟩ (.int .u32 (wd N 0 : Nat))).setCell ⟨w.heap.size, 4, none⟩ (.int .u32 (wd N 1 : Nat))).setCell ⟨w.heap.size, 5, none⟩ (.int .u32 (wd N 2 : Nat))).setCell ⟨w.heap.size, 6, none⟩ (.int .u32 (wd N 3 : Nat)))).setCell ⟨w.heap.size, 7, none⟩ (.slice ad0 l0.length cap0)) := below8 (bel2 hb0 hbk) 2 (fr : Int) (rd : Int) N (.slice ad0 l0.length cap0); obtain ⟨U, hU⟩ : ∃ U, ((((((((u1.setCell ⟨w.heap.size, 0, none⟩ (.int .i64 (2 : Int))).setCell ⟨w.heap.size, 1, none⟩ (.int .i64 (fr : Int))).setCell ⟨w.heap.size, 2, none⟩ (.int .i64 (rd : Int))).setCell ⟨w.heap.size, 3, none⟩ (.int .u32 (wd N 0 : Nat))).setCell ⟨w.heap.size, 4, none⟩ (.int .u32 (wd N 1 : Nat))).setCell ⟨w.heap.size, 5, none⟩ (.int .u32 (wd N 2 : Nat))).setCell ⟨w.heap.size, 6, none⟩ (.int .u32 (wd N 3 : Nat)))).setCell ⟨w.heap.size, 7, none⟩ (.slice ad0 l0.length cap0) = U := ⟨_, rfl⟩; rw [hU] at hBU hbU; obtain ⟨d0, d1, d2, d3, d4, d5, d6, d7⟩ := hBU.cells; have hRU := w0.carry hbU) | (go_at_call 11; (with_reducible refine (hlay _).mono ?_); rintro e u2 ⟨rfl, hb2⟩; have hbU2 := bel2 hbU hb2; have hBU2 := hBU.below hb2; have hRU2 := hRU.carry hb2) | (go_at_call 79; (with_reducible refine (hbyg _ _ _ hRU2).mono ?_); rintro e u3 ⟨g, c2x, rfl, hl3, hg3, hat3, ho3, hb3⟩; have hbU3 := bel2 hbU2 hb3; have hgU : w.heap.size ≤ g := Nat.le_trans hbU2.size hg3; have hgV : g < u3.heap.size := own_lt ho3 g rfl; have hkc : kk ≤ c2x := (by omega); have hkci : (kk : Int) ≤ (c2x : Int) := (by omega)) | (go_at_call 12; (with_reducible refine (hdc _ g c2x hgV hkc hat3).mono ?_); rintro e u4 ⟨rfl, hb4⟩; have hbU4 := bel2 hbU3 hb4; have hat4 : BAt u4 g 0 B := hat3.carry (hb4.block g hgV); have hsz4 : w.heap.size ≤ u4.heap.size := hbU4.size) | (at_builtin; refine wpList_append_own_at _ rfl _ _ 30 rfl w.heap.size 5 ic _ 1 1 Try.underlying30 hic hz0 hz1 hz2 rfl (by decide) _ B.length (cB B) rfl ho6' aS l3.length cap3 (cB l3) rfl (by rw [cB_len, Nat.mul_one]) (hsrc _ h36) (cB_one l3) (by unfold maxLen; omega) (by omega) hsz6 ?_; intro v7 u7 ho7x hg7 _ _; have hb7 : Below w.heap.size w u7 := hb6.grown hg7 hsz6 (fun q e => own_block ho6' q e); have ho7 : u7.ownsRow w.heap.size 5 1 v7 (B ++ l3).length (cB (B ++ l3)) := (by rw [cB_app, List.length_append]; exact ho7x)) | (at_builtin; refine wpList_append_own_at _ rfl _ _ 30 rfl w.heap.size 5 ic _ 1 1 Try.underlying30 hic hz0 hz1 hz2 rfl (by decide) _ 0 [] rfl (World.ownsRow_nil _ _ _ _) ⟨g, 0, none⟩ B.length c2x (cB B) rfl (by rw [cB_len, Nat.mul_one]) (b_src hat4) (cB_one B) (by unfold maxLen; omega) (by omega) hsz4 ?_; intro v6 u6 ho6 hg6 _ _; have hb6 : Below w.heap.size w u6 := hbU4.grown hg6 hsz4 (fun q e => by cases e); have ho6' : u6.ownsRow w.heap.size 5 1 v6 B.length (cB B) := (by simpa using ho6); have hsz6 := hb6.size; have h36 := h3w.carry hb6) | (go_at_call 12; (with_reducible refine (hdl _ _ ho7).mono ?_); rintro e u8 ⟨a, c, rfl, hb8⟩; have hbU8 := bel2 hb7 hb8) | (go_at_call 10; (with_reducible refine (hal _).mono ?_); rintro e wv ⟨rfl, hbv⟩))
          go_ret
          exact ⟨rfl, bel2 hbU8 hbv⟩
      · have hl3i : ((l3.length : Int) == 0) = false := by have := List.length_pos_iff.2 hne; simp; omega
        obtain ⟨bS, oS, rfl, _, _⟩ := w3 hne
        obtain ⟨aS, haS⟩ : ∃ aS : Addr, (⟨bS, oS, none⟩ : Addr) = aS := ⟨_, rfl⟩
        rw [haS]
        rw [haS] at h3w
        have hsrc : ∀ W, RdB W (some aS) l3 → ∀ j u, (cB l3)[j]? = some u → W.cell? (aS.add j) = some u := fun W hW j u hj => by
          obtain ⟨b', o', e, _, hat⟩ := hW hne
          cases e
          exact b_src hat j u hj
        have hdl : ∀ (W : World) (v : Value), W.ownsRow w.heap.size 5 1 v (B ++ l3).length (cB (B ++ l3)) → Calls Try.prog 12 #[v, .int .i64 (n : Int)] W fun e w' => e = .returned (.tuple #[.nilIface, .int .i64 2]) ∧ Below W.heap.size W w' := fun W v ho => by
          obtain ⟨ad, cap, rfl, hr⟩ := RdB.own ho
          have hcap : (B ++ l3).length ≤ cap := by
            rcases own_form ho with ⟨e1, e2⟩ | ⟨g, c, e1, _, _, e4⟩
            · omega
            · cases e1; exact e4
          have := decode_any ad cap (B ++ l3) (n : Int) W hr (hBB.append hb3) hcap
          unfold DcO at this
          rw [hmore hne] at this
          exact this
        clear hmore hsame hcut hBB
        go_enter Try.func6, Try.ntmps6
        go_wp2_with (first | (go_at_call 9; (with_reducible refine hki.mono ?_); rintro e u1 ⟨rfl, hbk⟩; have hB1 := hB0.below hbk; obtain ⟨e0, e1, e2, e3, e4, e5, e6, e7⟩ := hB1.cells; obtain ⟨z0, z1, z2, z3, z4, z5, z6, z7⟩ := hB1.thaw; have hBU : RB (((((((((u1.setCell ⟨w.heap.size, 0, none⟩ (.int .i64 (2 : Int))).setCell ⟨w.heap.size, 1, none⟩ (.int .i64 (fr : Int))).setCell ⟨w.heap.size, 2, none⟩ (.int .i64 (rd : Int))).setCell ⟨w.heap.size, 3, none⟩ (.int .u32 (wd N 0 : Nat))).setCell ⟨w.heap.size, 4, none⟩ (.int .u32 (wd N 1 : Nat))).setCell ⟨w.heap.size, 5, none⟩ (.int .u32 (wd N 2 : Nat))).setCell ⟨w.heap.size, 6, none⟩ (.int .u32 (wd N 3 : Nat)))).setCell ⟨w.heap.size, 7, none⟩ (.slice ad0 l0.length cap0)) w.heap.size 2 (fr : Int) (rd : Int) N (.slice ad0 l0.length cap0) := hB1.set8 2 (fr : Int) (rd : Int) N (.slice ad0 l0.length cap0); have hbU : Below w.heap.size w (((((((((u1.setCell ⟨w.heap.size, 0, none⟩ (.int .i64 (2 : Int))).setCell ⟨w.heap.size, 1, none⟩ (.int .i64 (fr : Int))).setCell ⟨w.heap.size, 2, none⟩ (.int .i64 (rd : Int))).setCell ⟨w.heap.size, 3, none⟩ (.int .u32 (wd N 0 : Nat))).setCell ⟨w.heap.size, 4, none⟩ (.int .u32 (wd N 1 : Nat))).setCell ⟨w.heap.size, 5, none⟩ (.int .u32 (wd N 2 : Nat))).setCell ⟨w.heap.size, 6, none⟩ (.int .u32 (wd N 3 : Nat)))).setCell ⟨w.heap.size, 7, none⟩ (.slice ad0 l0.length cap0)) := below8 (bel2 hb0 hbk) 2 (fr : Int) (rd : Int) N (.slice ad0 l0.length cap0); obtain ⟨U, hU⟩ : ∃ U, ((((((((u1.setCell ⟨w.heap.size, 0, none⟩ (.int .i64 (2 : Int))).setCell ⟨w.heap.size, 1, none⟩ (.int .i64 (fr : Int))).setCell ⟨w.heap.size, 2, none⟩ (.int .i64 (rd : Int))).setCell ⟨w.heap.size, 3, none⟩ (.int .u32 (wd N 0 : Nat))).setCell ⟨w.heap.size, 4, none⟩ (.int .u32 (wd N 1 : Nat))).setCell ⟨w.heap.size, 5, none⟩ (.int .u32 (wd N 2 : Nat))).setCell ⟨w.heap.size, 6, none⟩ (.int .u32 (wd N 3 : Nat)))).setCell ⟨w.heap.size, 7, none⟩ (.slice ad0 l0.length cap0) = U := ⟨_, rfl⟩; rw [hU] at hBU hbU; obtain ⟨d0, d1, d2, d3, d4, d5, d6, d7⟩ := hBU.cells; have hRU := w0.carry hbU) | (go_at_call 11; (with_reducible refine (hlay _).mono ?_); rintro e u2 ⟨rfl, hb2⟩; have hbU2 := bel2 hbU hb2; have hBU2 := hBU.below hb2; have hRU2 := hRU.carry hb2) | (go_at_call 79; (with_reducible refine (hbyg _ _ _ hRU2).mono ?_); rintro e u3 ⟨g, c2x, rfl, hl3, hg3, hat3, ho3, hb3⟩; have hbU3 := bel2 hbU2 hb3; have hgU : w.heap.size ≤ g := Nat.le_trans hbU2.size hg3; have hgV : g < u3.heap.size := own_lt ho3 g rfl; have hkc : kk ≤ c2x := (by omega); have hkci : (kk : Int) ≤ (c2x : Int) := (by omega)) | (go_at_call 12; (with_reducible refine (hdc _ g c2x hgV hkc hat3).mono ?_); rintro e u4 ⟨rfl, hb4⟩; have hbU4 := bel2 hbU3 hb4; have hat4 : BAt u4 g 0 B := hat3.carry (hb4.block g hgV); have hsz4 : w.heap.size ≤ u4.heap.size := hbU4.size) | (at_builtin; refine wpList_append_own_at _ rfl _ _ 30 rfl w.heap.size 5 ic _ 1 1 Try.underlying30 hic hz0 hz1 hz2 rfl (by decide) _ B.length (cB B) rfl ho6' aS l3.length cap3 (cB l3) rfl (by rw [cB_len, Nat.mul_one]) (hsrc _ h36) (cB_one l3) (by unfold maxLen; omega) (by omega) hsz6 ?_; intro v7 u7 ho7x hg7 _ _; have hb7 : Below w.heap.size w u7 := hb6.grown hg7 hsz6 (fun q e => own_block ho6' q e); have ho7 : u7.ownsRow w.heap.size 5 1 v7 (B ++ l3).length (cB (B ++ l3)) := (by rw [cB_app, List.length_append]; exact ho7x)) | (at_builtin; refine wpList_append_own_at _ rfl _ _ 30 rfl w.heap.size 5 ic _ 1 1 Try.underlying30 hic hz0 hz1 hz2 rfl (by decide) _ 0 [] rfl (World.ownsRow_nil _ _ _ _) ⟨g, 0, none⟩ B.length c2x (cB B) rfl (by rw [cB_len, Nat.mul_one]) (b_src hat4) (cB_one B) (by unfold maxLen; omega) (by omega) hsz4 ?_; intro v6 u6 ho6 hg6 _ _; have hb6 : Below w.heap.size w u6 := hbU4.grown hg6 hsz4 (fun q e => by cases e); have ho6' : u6.ownsRow w.heap.size 5 1 v6 B.length (cB B) := (by simpa using ho6); have hsz6 := hb6.size; have h36 := h3w.carry hb6) | (go_at_call 12; (with_reducible refine (hdl _ _ ho7).mono ?_); rintro e u8 ⟨rfl, hb8⟩; have hbU8 := bel2 hb7 hb8) | (go_at_call 10; (with_reducible refine (hal _).mono ?_); rintro e wv ⟨rfl, hbv⟩))
        go_ret
        exact ⟨rfl, bel2 hbU8 hbv⟩
    · obtain ⟨kk, rfl⟩ := Int.eq_ofNat_of_zero_le (show 0 ≤ t by omega)
      have hkk : kk < B.length := by omega
      have hkki : (kk : Int) < (B.length : Int) := by omega
      have hts' : ¬ ((kk : Int) < 0) := by omega
      clear ht1 ht2
      have hdc : ∀ (W : World) (g c2 : Nat), g < W.heap.size → kk ≤ c2 → BAt W g 0 B → Calls Try.prog 12 #[.slice (some ⟨g, 0, none⟩) kk c2, .int .i64 (n : Int)] W fun e w' => e = .returned (.tuple #[.nilIface, .int .i64 76]) ∧ Below W.heap.size W w' := fun W g c2 h1 h2 h3 => by
        have hl : (B.take kk).length = kk := by rw [List.length_take]; omega
        have := decode_any (some ⟨g, 0, none⟩) c2 (B.take kk) (n : Int) W (fun _ => ⟨g, 0, rfl, h1, by have := h3.sub 0 kk; simpa using this⟩) (hBB.take kk) (by rw [hl]; exact h2)
        unfold DcO at this
        rw [hcut kk hkk, hl] at this
        exact this
      have h3w := w3
      by_cases hne : l3 = []
      · have HL3 : Hid (l3 = []) := hne
        have hl3i : ((l3.length : Int) == 0) = true := by rw [hne]; rfl
        clear hne
        cases ad3 with
        | none =>
          have hdl : ∀ (W : World) (v : Value), W.ownsRow w.heap.size 5 1 v (B ++ l3).length (cB (B ++ l3)) → Calls Try.prog 12 #[v, .int .i64 (n : Int)] W fun e w' => ∃ a c, e = .returned (.tuple #[.iface 55 (.agg #[.int .i64 (fr : Int), .int .i64 (rd : Int), .int .u32 (wd N 0 : Nat), .int .u32 (wd N 1 : Nat), .int .u32 (wd N 2 : Nat), .int .u32 (wd N 3 : Nat), .slice a l0.length c]), .int .i64 0]) ∧ Below W.heap.size W w' := fun W v ho => by
            obtain ⟨ad, cap, rfl, hr⟩ := RdB.own ho
            have hcap : (B ++ l3).length ≤ cap := by
              rcases own_form ho with ⟨e1, e2⟩ | ⟨g, c, e1, _, _, e4⟩
              · omega
              · cases e1; exact e4
            have := decode_any ad cap (B ++ l3) (n : Int) W hr (hBB.append hb3) hcap
            unfold DcO at this
            rw [HL3.out, List.append_nil] at this ⊢
            rw [hsame] at this
            refine this.mono ?_
            rintro e W' ⟨a, c, q1, _, q3⟩
            exact ⟨a, c, q1, q3⟩
          clear hmore hsame hcut hBB
          go_enter Try.func6, Try.ntmps6
          go_wp2_with (first | (go_at_call 9; (with_reducible refine hki.mono ?_); rintro e u1 ⟨rfl, hbk⟩; have hB1 := hB0.below hbk; obtain ⟨e0, e1, e2, e3, e4, e5, e6, e7⟩ := hB1.cells; obtain ⟨z0, z1, z2, z3, z4, z5, z6, z7⟩ := hB1.thaw; have hBU : RB (((((((((u1.setCell ⟨w.heap.size, 0, none⟩ (.int .i64 (2 : Int))).setCell ⟨w.heap.size, 1, none⟩ (.int .i64 (fr : Int))).setCell ⟨w.heap.size, 2, none⟩ (.int .i64 (rd : Int))).setCell ⟨w.heap.size, 3, none⟩ (.int .u32 (wd N 0 : Nat))).setCell ⟨w.heap.size, 4, none⟩ (.int .u32 (wd N 1 : Nat))).setCell ⟨w.heap.size, 5, none⟩ (.int .u32 (wd N 2 : Nat))).setCell ⟨w.heap.size, 6, none⟩ (.int .u32 (wd N 3 : Nat)))).setCell ⟨w.heap.size, 7, none⟩ (.slice ad0 l0.length cap0)) w.heap.size 2 (fr : Int) (rd : Int) N (.slice ad0 l0.length cap0) := hB1.set8 2 (fr : Int) (rd : Int) N (.slice ad0 l0.length cap0); have hbU : Below w.heap.size w (((((((((u1.setCell ⟨w.heap.size, 0, none⟩ (.int .i64 (2 : Int))).setCell ⟨w.heap.size, 1, none⟩ (.int .i64 (fr : Int))).setCell ⟨w.heap.size, 2, none⟩ (.int .i64 (rd : Int))).setCell ⟨w.heap.size, 3, none⟩ (.int .u32 (wd N 0 : Nat))).setCell ⟨w.heap.size, 4, none⟩ (.int .u32 (wd N 1 : Nat))).setCell ⟨w.heap.size, 5, none⟩ (.int .u32 (wd N 2 : Nat))).setCell ⟨w.heap.size, 6, none⟩ (.int .u32 (wd N 3 : Nat)))).setCell ⟨w.heap.size, 7, none⟩ (.slice ad0 l0.length cap0)) := below8 (bel2 hb0 hbk) 2 (fr : Int) (rd : Int) N (.slice ad0 l0.length cap0); obtain ⟨U, hU⟩ : ∃ U, ((((((((u1.setCell ⟨w.heap.size, 0, none⟩ (.int .i64 (2 : Int))).setCell ⟨w.heap.size, 1, none⟩ (.int .i64 (fr : Int))).setCell ⟨w.heap.size, 2, none⟩ (.int .i64 (rd : Int))).setCell ⟨w.heap.size, 3, none⟩ (.int .u32 (wd N 0 : Nat))).setCell ⟨w.heap.size, 4, none⟩ (.int .u32 (wd N 1 : Nat))).setCell ⟨w.heap.size, 5, none⟩ (.int .u32 (wd N 2 : Nat))).setCell ⟨w.heap.size, 6, none⟩ (.int .u32 (wd N 3 : Nat)))).setCell ⟨w.heap.size, 7, none⟩ (.slice ad0 l0.length cap0) = U := ⟨_, rfl⟩; rw [hU] at hBU hbU; obtain ⟨d0, d1, d2, d3, d4, d5, d6, d7⟩ := hBU.cells; have hRU := w0.carry hbU) | (go_at_call 11; (with_reducible refine (hlay _).mono ?_); rintro e u2 ⟨rfl, hb2⟩; have hbU2 := bel2 hbU hb2; have hBU2 := hBU.below hb2; have hRU2 := hRU.carry hb2) | (go_at_call 79; (with_reducible refine (hbyg _ _ _ hRU2).mono ?_); rintro e u3 ⟨g, c2x, rfl, hl3, hg3, hat3, ho3, hb3⟩; have hbU3 := bel2 hbU2 hb3; have hgU : w.heap.size ≤ g := Nat.le_trans hbU2.size hg3; have hgV : g < u3.heap.size := own_lt ho3 g rfl; have hkc : kk ≤ c2x := (by omega); have hkci : (kk : Int) ≤ (c2x : Int) := (by omega)) | (go_at_call 12; (with_reducible refine (hdc _ g c2x hgV hkc hat3).mono ?_); rintro e u4 ⟨rfl, hb4⟩; have hbU4 := bel2 hbU3 hb4; have hat4 : BAt u4 g 0 B := hat3.carry (hb4.block g hgV); have hsz4 : w.heap.size ≤ u4.heap.size := hbU4.size) | (at_builtin; refine append_none rfl _ _ 30 rfl w.heap.size 5 ic 1 Try.underlying30 hic _ B.length (cB B) rfl ho6' cap3 l3.length (by rw [HL3.out]; rfl) rfl ?_; have hb7 := hb6; have ho7 : u6.ownsRow w.heap.size 5 1 v6 (B ++ l3).length (cB (B ++ l3)) := (by rw [HL3.out, List.append_nil]; exact ho6')) | (at_builtin; refine wpList_append_own_at _ rfl _ _ 30 rfl w.heap.size 5 ic _ 1 1 Try.underlying30 hic hz0 hz1 hz2 rfl (by decide) _ 0 [] rfl (World.ownsRow_nil _ _ _ _) ⟨g, 0, none⟩ B.length c2x (cB B) rfl (by rw [cB_len, Nat.mul_one]) (b_src hat4) (cB_one B) (by unfold maxLen; omega) (by omega) hsz4 ?_; intro v6 u6 ho6 hg6 _ _; have hb6 : Below w.heap.size w u6 := hbU4.grown hg6 hsz4 (fun q e => by cases e); have ho6' : u6.ownsRow w.heap.size 5 1 v6 B.length (cB B) := (by simpa using ho6); have hsz6 := hb6.size; have h36 := h3w.carry hb6) | (go_at_call 12; (with_reducible refine (hdl _ _ ho7).mono ?_); rintro e u8 ⟨a, c, rfl, hb8⟩; have hbU8 := bel2 hb7 hb8) | (go_at_call 10; (with_reducible refine (hal _).mono ?_); rintro e wv ⟨rfl, hbv⟩))
          go_ret
          exact ⟨rfl, bel2 hbU8 hbv⟩
        | some aS =>
          have hsrc : ∀ W, RdB W (some aS) l3 → ∀ j u, (cB l3)[j]? = some u → W.cell? (aS.add j) = some u := fun W _ j u hj => by rw [HL3.out] at hj; simp [cB] at hj
          have hdl : ∀ (W : World) (v : Value), W.ownsRow w.heap.size 5 1 v (B ++ l3).length (cB (B ++ l3)) → Calls Try.prog 12 #[v, .int .i64 (n : Int)] W fun e w' => ∃ a c, e = .returned (.tuple #[.iface 55 (.agg #[.int .i64 (fr : Int), .int .i64 (rd : Int), .int .u32 (wd N 0 : Nat), .int .u32 (wd N 1 : Nat), .int .u32 (wd N 2 : Nat), .int .u32 (wd N 3 : Nat), .slice a l0.length c]), .int .i64 0]) ∧ Below W.heap.size W w' := fun W v ho => by
            obtain ⟨ad, cap, rfl, hr⟩ := RdB.own ho
            have hcap : (B ++ l3).length ≤ cap := by
              rcases own_form ho with ⟨e1, e2⟩ | ⟨g, c, e1, _, _, e4⟩
              · omega
              · cases e1; exact e4
            have := decode_any ad cap (B ++ l3) (n : Int) W hr (hBB.append hb3) hcap
            unfold DcO at this
            rw [HL3.out, List.append_nil] at this ⊢
            rw [hsame] at this
            refine this.mono ?_
            rintro e W' ⟨a, c, q1, _, q3⟩
            exact ⟨a, c, q1, q3⟩
          clear hmore hsame hcut hBB
          go_enter Try.func6, Try.ntmps6
          go_wp2_with (first | (go_at_call 9; (with_reducible refine hki.mono ?_); rintro e u1 ⟨rfl, hbk⟩; have hB1 := hB0.below hbk; obtain ⟨e0, e1, e2, e3, e4, e5, e6, e7⟩ := hB1.cells; obtain ⟨z0, z1, z2, z3, z4, z5, z6, z7⟩ := hB1.thaw; have hBU : RB (((((((((u1.setCell ⟨w.heap.size, 0, none⟩ (.int .i64 (2 : Int))).setCell ⟨w.heap.size, 1, none⟩ (.int .i64 (fr : Int))).setCell ⟨w.heap.size, 2, none⟩ (.int .i64 (rd : Int))).setCell ⟨w.heap.size, 3, none⟩ (.int .u32 (wd N 0 : Nat))).setCell ⟨w.heap.size, 4, none⟩ (.int .u32 (wd N 1 : Nat))).setCell ⟨w.heap.size, 5, none⟩ (.int .u32 (wd N 2 : Nat))).setCell ⟨w.heap.size, 6, none⟩ (.int .u32 (wd N 3 : Nat)))).setCell ⟨w.heap.size, 7, none⟩ (.slice ad0 l0.length cap0)) w.heap.size 2 (fr : Int) (rd : Int) N (.slice ad0 l0.length cap0) := hB1.set8 2 (fr : Int) (rd : Int) N (.slice ad0 l0.length cap0); have hbU : Below w.heap.size w (((((((((u1.setCell ⟨w.heap.size, 0, none⟩ (.int .i64 (2 : Int))).setCell ⟨w.heap.size, 1, none⟩ (.int .i64 (fr : Int))).setCell ⟨w.heap.size, 2, none⟩ (.int .i64 (rd : Int))).setCell ⟨w.heap.size, 3, none⟩ (.int .u32 (wd N 0 : Nat))).setCell ⟨w.heap.size, 4, none⟩ (.int .u32 (wd N 1 : Nat))).setCell ⟨w.heap.size, 5, none⟩ (.int .u32 (wd N 2 : Nat))).setCell ⟨w.heap.size, 6, none⟩ (.int .u32 (wd N 3 : Nat)))).setCell ⟨w.heap.size, 7, none⟩ (.slice ad0 l0.length cap0)) := below8 (bel2 hb0 hbk) 2 (fr : Int) (rd : Int) N (.slice ad0 l0.length cap0); obtain ⟨U, hU⟩ : ∃ U, ((((((((u1.setCell ⟨w.heap.size, 0, none⟩ (.int .i64 (2 : Int))).setCell ⟨w.heap.size, 1, none⟩ (.int .i64 (fr : Int))).setCell ⟨w.heap.size, 2, none⟩ (.int .i64 (rd : Int))).setCell ⟨w.heap.size, 3, none⟩ (.int .u32 (wd N 0 : Nat))).setCell ⟨w.heap.size, 4, none⟩ (.int .u32 (wd N 1 : Nat))).setCell ⟨w.heap.size, 5, none⟩ (.int .u32 (wd N 2 : Nat))).setCell ⟨w.heap.size, 6, none⟩ (.int .u32 (wd N 3 : Nat)))).setCell ⟨w.heap.size, 7, none⟩ (.slice ad0 l0.length cap0) = U := ⟨_, rfl⟩; rw [hU] at hBU hbU; obtain ⟨d0, d1, d2, d3, d4, d5, d6, d7⟩ := hBU.cells; have hRU := w0.carry hbU) | (go_at_call 11; (with_reducible refine (hlay _).mono ?_); rintro e u2 ⟨rfl, hb2⟩; have hbU2 := bel2 hbU hb2; have hBU2 := hBU.below hb2; have hRU2 := hRU.carry hb2) | (go_at_call 79; (with_reducible refine (hbyg _ _ _ hRU2).mono ?_); rintro e u3 ⟨g, c2x, rfl, hl3, hg3, hat3, ho3, hb3⟩; have hbU3 := bel2 hbU2 hb3; have hgU : w.heap.size ≤ g := Nat.le_trans hbU2.size hg3; have hgV : g < u3.heap.size := own_lt ho3 g rfl; have hkc : kk ≤ c2x := (by omega); have hkci : (kk : Int) ≤ (c2x : Int) := (by omega)) | (go_at_call 12; (with_reducible refine (hdc _ g c2x hgV hkc hat3).mono ?_); rintro e u4 ⟨rfl, hb4⟩; have hbU4 := bel2 hbU3 hb4; have hat4 : BAt u4 g 0 B := hat3.carry (hb4.block g hgV); have hsz4 : w.heap.size ≤ u4.heap.size := hbU4.size) | (at_builtin; refine wpList_append_own_at _ rfl _ _ 30 rfl w.heap.size 5 ic _ 1 1 Try.underlying30 hic hz0 hz1 hz2 rfl (by decide) _ B.length (cB B) rfl ho6' aS l3.length cap3 (cB l3) rfl (by rw [cB_len, Nat.mul_one]) (hsrc _ h36) (cB_one l3) (by unfold maxLen; omega) (by omega) hsz6 ?_; intro v7 u7 ho7x hg7 _ _; have hb7 : Below w.heap.size w u7 := hb6.grown hg7 hsz6 (fun q e => own_block ho6' q e); have ho7 : u7.ownsRow w.heap.size 5 1 v7 (B ++ l3).length (cB (B ++ l3)) := (by rw [cB_app, List.length_append]; exact ho7x)) | (at_builtin; refine wpList_append_own_at _ rfl _ _ 30 rfl w.heap.size 5 ic _ 1 1 Try.underlying30 hic hz0 hz1 hz2 rfl (by decide) _ 0 [] rfl (World.ownsRow_nil _ _ _ _) ⟨g, 0, none⟩ B.length c2x (cB B) rfl (by rw [cB_len, Nat.mul_one]) (b_src hat4) (cB_one B) (by unfold maxLen; omega) (by omega) hsz4 ?_; intro v6 u6 ho6 hg6 _ _; have hb6 : Below w.heap.size w u6 := hbU4.grown hg6 hsz4 (fun q e => by cases e); have ho6' : u6.ownsRow w.heap.size 5 1 v6 B.length (cB B) := (by simpa using ho6); have hsz6 := hb6.size; have h36 := h3w.carry hb6) | (go_at_call 12; (with_reducible refine (hdl _ _ ho7).mono ?_); rintro e u8 ⟨a, c, rfl, hb8⟩; have hbU8 := bel2 hb7 hb8) | (go_at_call 10; (with_reducible refine (hal _).mono ?_); rintro e wv ⟨rfl, hbv⟩))
          go_ret
          exact ⟨rfl, bel2 hbU8 hbv⟩
      · have hl3i : ((l3.length : Int) == 0) = false := by have := List.length_pos_iff.2 hne; simp; omega
        obtain ⟨bS, oS, rfl, _, _⟩ := w3 hne
        obtain ⟨aS, haS⟩ : ∃ aS : Addr, (⟨bS, oS, none⟩ : Addr) = aS := ⟨_, rfl⟩
        rw [haS]
        rw [haS] at h3w
        have hsrc : ∀ W, RdB W (some aS) l3 → ∀ j u, (cB l3)[j]? = some u → W.cell? (aS.add j) = some u := fun W hW j u hj => by
          obtain ⟨b', o', e, _, hat⟩ := hW hne
          cases e
          exact b_src hat j u hj
        have hdl : ∀ (W : World) (v : Value), W.ownsRow w.heap.size 5 1 v (B ++ l3).length (cB (B ++ l3)) → Calls Try.prog 12 #[v, .int .i64 (n : Int)] W fun e w' => e = .returned (.tuple #[.nilIface, .int .i64 2]) ∧ Below W.heap.size W w' := fun W v ho => by
          obtain ⟨ad, cap, rfl, hr⟩ := RdB.own ho
          have hcap : (B ++ l3).length ≤ cap := by
            rcases own_form ho with ⟨e1, e2⟩ | ⟨g, c, e1, _, _, e4⟩
            · omega
            · cases e1; exact e4
          have := decode_any ad cap (B ++ l3) (n : Int) W hr (hBB.append hb3) hcap
          unfold DcO at this
          rw [hmore hne] at this
          exact this
        clear hmore hsame hcut hBB
        go_enter Try.func6, Try.ntmps6
        go_wp2_with (first | (go_at_call 9; (with_reducible refine hki.mono ?_); rintro e u1 ⟨rfl, hbk⟩; have hB1 := hB0.below hbk; obtain ⟨e0, e1, e2, e3, e4, e5, e6, e7⟩ := hB1.cells; obtain ⟨z0, z1, z2, z3, z4, z5, z6, z7⟩ := hB1.thaw; have hBU : RB (((((((((u1.setCell ⟨w.heap.size, 0, none⟩ (.int .i64 (2 : Int))).setCell ⟨w.heap.size, 1, none⟩ (.int .i64 (fr : Int))).setCell ⟨w.heap.size, 2, none⟩ (.int .i64 (rd : Int))).setCell ⟨w.heap.size, 3, none⟩ (.int .u32 (wd N 0 : Nat))).setCell ⟨w.heap.size, 4, none⟩ (.int .u32 (wd N 1 : Nat))).setCell ⟨w.heap.size, 5, none⟩ (.int .u32 (wd N 2 : Nat))).setCell ⟨w.heap.size, 6, none⟩ (.int .u32 (wd N 3 : Nat)))).setCell ⟨w.heap.size, 7, none⟩ (.slice ad0 l0.length cap0)) w.heap.size 2 (fr : Int) (rd : Int) N (.slice ad0 l0.length cap0) := hB1.set8 2 (fr : Int) (rd : Int) N (.slice ad0 l0.length cap0); have hbU : Below w.heap.size w (((((((((u1.setCell ⟨w.heap.size, 0, none⟩ (.int .i64 (2 : Int))).setCell ⟨w.heap.size, 1, none⟩ (.int .i64 (fr : Int))).setCell ⟨w.heap.size, 2, none⟩ (.int .i64 (rd : Int))).setCell ⟨w.heap.size, 3, none⟩ (.int .u32 (wd N 0 : Nat))).setCell ⟨w.heap.size, 4, none⟩ (.int .u32 (wd N 1 : Nat))).setCell ⟨w.heap.size, 5, none⟩ (.int .u32 (wd N 2 : Nat))).setCell ⟨w.heap.size, 6, none⟩ (.int .u32 (wd N 3 : Nat)))).setCell ⟨w.heap.size, 7, none⟩ (.slice ad0 l0.length cap0)) := below8 (bel2 hb0 hbk) 2 (fr : Int) (rd : Int) N (.slice ad0 l0.length cap0); obtain ⟨U, hU⟩ : ∃ U, ((((((((u1.setCell ⟨w.heap.size, 0, none⟩ (.int .i64 (2 : Int))).setCell ⟨w.heap.size, 1, none⟩ (.int .i64 (fr : Int))).setCell ⟨w.heap.size, 2, none⟩ (.int .i64 (rd : Int))).setCell ⟨w.heap.size, 3, none⟩ (.int .u32 (wd N 0 : Nat))).setCell ⟨w.heap.size, 4, none⟩ (.int .u32 (wd N 1 : Nat))).setCell ⟨w.heap.size, 5, none⟩ (.int .u32 (wd N 2 : Nat))).setCell ⟨w.heap.size, 6, none⟩ (.int .u32 (wd N 3 : Nat)))).setCell ⟨w.heap.size, 7, none⟩ (.slice ad0 l0.length cap0) = U := ⟨_, rfl⟩; rw [hU] at hBU hbU; obtain ⟨d0, d1, d2, d3, d4, d5, d6, d7⟩ := hBU.cells; have hRU := w0.carry hbU) | (go_at_call 11; (with_reducible refine (hlay _).mono ?_); rintro e u2 ⟨rfl, hb2⟩; have hbU2 := bel2 hbU hb2; have hBU2 := hBU.below hb2; have hRU2 := hRU.carry hb2) | (go_at_call 79; (with_reducible refine (hbyg _ _ _ hRU2).mono ?_); rintro e u3 ⟨g, c2x, rfl, hl3, hg3, hat3, ho3, hb3⟩; have hbU3 := bel2 hbU2 hb3; have hgU : w.heap.size ≤ g := Nat.le_trans hbU2.size hg3; have hgV : g < u3.heap.size := own_lt ho3 g rfl; have hkc : kk ≤ c2x := (by omega); have hkci : (kk : Int) ≤ (c2x : Int) := (by omega)) | (go_at_call 12; (with_reducible refine (hdc _ g c2x hgV hkc hat3).mono ?_); rintro e u4 ⟨rfl, hb4⟩; have hbU4 := bel2 hbU3 hb4; have hat4 : BAt u4 g 0 B := hat3.carry (hb4.block g hgV); have hsz4 : w.heap.size ≤ u4.heap.size := hbU4.size) | (at_builtin; refine wpList_append_own_at _ rfl _ _ 30 rfl w.heap.size 5 ic _ 1 1 Try.underlying30 hic hz0 hz1 hz2 rfl (by decide) _ B.length (cB B) rfl ho6' aS l3.length cap3 (cB l3) rfl (by rw [cB_len, Nat.mul_one]) (hsrc _ h36) (cB_one l3) (by unfold maxLen; omega) (by omega) hsz6 ?_; intro v7 u7 ho7x hg7 _ _; have hb7 : Below w.heap.size w u7 := hb6.grown hg7 hsz6 (fun q e => own_block ho6' q e); have ho7 : u7.ownsRow w.heap.size 5 1 v7 (B ++ l3).length (cB (B ++ l3)) := (by rw [cB_app, List.length_append]; exact ho7x)) | (at_builtin; refine wpList_append_own_at _ rfl _ _ 30 rfl w.heap.size 5 ic _ 1 1 Try.underlying30 hic hz0 hz1 hz2 rfl (by decide) _ 0 [] rfl (World.ownsRow_nil _ _ _ _) ⟨g, 0, none⟩ B.length c2x (cB B) rfl (by rw [cB_len, Nat.mul_one]) (b_src hat4) (cB_one B) (by unfold maxLen; omega) (by omega) hsz4 ?_; intro v6 u6 ho6 hg6 _ _; have hb6 : Below w.heap.size w u6 := hbU4.grown hg6 hsz4 (fun q e => by cases e); have ho6' : u6.ownsRow w.heap.size 5 1 v6 B.length (cB B) := (by simpa using ho6); have hsz6 := hb6.size; have h36 := h3w.carry hb6) | (go_at_call 12; (with_reducible refine (hdl _ _ ho7).mono ?_); rintro e u8 ⟨rfl, hb8⟩; have hbU8 := bel2 hb7 hb8) | (go_at_call 10; (with_reducible refine (hal _).mono ?_); rintro e wv ⟨rfl, hbv⟩))
        go_ret
        exact ⟨rfl, bel2 hbU8 hbv⟩
  · obtain rfl : N = 0 := hk2 (by decide)
    obtain rfl : r = 0 := hk3 rfl
    have hlay : ∀ W, Calls Try.prog 11 #[.agg #[.int .i64 3, .int .i64 f0, .int .i64 0, .int .u32 (wd 0 0 : Nat), .int .u32 (wd 0 1 : Nat), .int .u32 (wd 0 2 : Nat), .int .u32 (wd 0 3 : Nat), .slice ad0 l0.length cap0]] W fun e w' => e = .returned (.iface 58 (.agg #[.int .i64 f0, .slice ad0 l0.length cap0])) ∧ Below W.heap.size W w' := fun W => lay_any 3 f0 0 0 ad0 l0.length cap0 W
    have i1 := invU_Bytes
    by_cases hf : flt 3 a1 f0 0 0 l0 = 0
    case neg =>
      have hby : ∀ (W : World) (a : Option Addr) (c : Nat), RdN W a l0 → Calls Try.prog 82 #[.agg #[.int .i64 f0, .slice a l0.length c], .int .i64 a1] W fun e W' => ∃ b2 c2, e = .returned (.tuple #[.slice b2 0 c2, .int .i64 (flt 3 a1 f0 0 0 l0)]) ∧ Below W.heap.size W W' := fun W a c hr => (ubytes_any a1 f0 a c l0 W hr (by omega)).mono (fun e W' q => bo_no q hf)
      have hfi : (flt 3 a1 f0 0 0 l0 != 0) = true := by simpa using hf
      generalize flt 3 a1 f0 0 0 l0 = FV at *
      clear hf
      go_enter Try.func6, Try.ntmps6
      go_wp2_with (first | (go_at_call 9; (with_reducible refine hki.mono ?_); rintro e u1 ⟨rfl, hbk⟩; have hB1 := hB0.below hbk; obtain ⟨e0, e1, e2, e3, e4, e5, e6, e7⟩ := hB1.cells; obtain ⟨z0, z1, z2, z3, z4, z5, z6, z7⟩ := hB1.thaw; have hBU : RB (((((((((u1.setCell ⟨w.heap.size, 0, none⟩ (.int .i64 (3 : Int))).setCell ⟨w.heap.size, 1, none⟩ (.int .i64 f0)).setCell ⟨w.heap.size, 2, none⟩ (.int .i64 0)).setCell ⟨w.heap.size, 3, none⟩ (.int .u32 (wd 0 0 : Nat))).setCell ⟨w.heap.size, 4, none⟩ (.int .u32 (wd 0 1 : Nat))).setCell ⟨w.heap.size, 5, none⟩ (.int .u32 (wd 0 2 : Nat))).setCell ⟨w.heap.size, 6, none⟩ (.int .u32 (wd 0 3 : Nat)))).setCell ⟨w.heap.size, 7, none⟩ (.slice ad0 l0.length cap0)) w.heap.size 3 f0 0 0 (.slice ad0 l0.length cap0) := hB1.set8 3 f0 0 0 (.slice ad0 l0.length cap0); have hbU : Below w.heap.size w (((((((((u1.setCell ⟨w.heap.size, 0, none⟩ (.int .i64 (3 : Int))).setCell ⟨w.heap.size, 1, none⟩ (.int .i64 f0)).setCell ⟨w.heap.size, 2, none⟩ (.int .i64 0)).setCell ⟨w.heap.size, 3, none⟩ (.int .u32 (wd 0 0 : Nat))).setCell ⟨w.heap.size, 4, none⟩ (.int .u32 (wd 0 1 : Nat))).setCell ⟨w.heap.size, 5, none⟩ (.int .u32 (wd 0 2 : Nat))).setCell ⟨w.heap.size, 6, none⟩ (.int .u32 (wd 0 3 : Nat)))).setCell ⟨w.heap.size, 7, none⟩ (.slice ad0 l0.length cap0)) := below8 (bel2 hb0 hbk) 3 f0 0 0 (.slice ad0 l0.length cap0); obtain ⟨U, hU⟩ : ∃ U, ((((((((u1.setCell ⟨w.heap.size, 0, none⟩ (.int .i64 (3 : Int))).setCell ⟨w.heap.size, 1, none⟩ (.int .i64 f0)).setCell ⟨w.heap.size, 2, none⟩ (.int .i64 0)).setCell ⟨w.heap.size, 3, none⟩ (.int .u32 (wd 0 0 : Nat))).setCell ⟨w.heap.size, 4, none⟩ (.int .u32 (wd 0 1 : Nat))).setCell ⟨w.heap.size, 5, none⟩ (.int .u32 (wd 0 2 : Nat))).setCell ⟨w.heap.size, 6, none⟩ (.int .u32 (wd 0 3 : Nat)))).setCell ⟨w.heap.size, 7, none⟩ (.slice ad0 l0.length cap0) = U := ⟨_, rfl⟩; rw [hU] at hBU hbU; obtain ⟨d0, d1, d2, d3, d4, d5, d6, d7⟩ := hBU.cells; have hRU := w0.carry hbU) | (go_at_call 11; (with_reducible refine (hlay _).mono ?_); rintro e u2 ⟨rfl, hb2⟩; have hbU2 := bel2 hbU hb2; have hBU2 := hBU.below hb2; have hRU2 := hRU.carry hb2) | (go_at_call 82; (with_reducible refine (hby _ _ _ hRU2).mono ?_); rintro e u3 ⟨b2, c2x, rfl, hb3⟩) | (go_at_call 10; (with_reducible refine (hal _).mono ?_); rintro e wv ⟨rfl, hbv⟩))
      go_ret
      exact ⟨rfl, bel2 (bel2 hbU2 hb3) hbv⟩
    obtain ⟨hn, hfr, hrd, _, hri⟩ := flt_0 hf
    obtain ⟨fr, rfl⟩ := Int.eq_ofNat_of_zero_le hfr.1
    obtain ⟨n, rfl⟩ := Int.eq_ofNat_of_zero_le (show 0 ≤ a1 by omega)
    have hdo := dec_of (n := n) (fr := fr) (rd := 0) (N := 0) (l := l0) (show 1 ≤ 3 ∧ 3 ≤ 3 by decide) hf (fun _ => rfl) (fun _ => rfl)
    obtain ⟨B, hB⟩ : ∃ B, byt7 3 n fr 0 0 l0 = B := ⟨_, rfl⟩
    have hBB : Byt B := hB ▸ byt7_byt _ _ _ _ _ _
    have hBs : B.length ≤ 1024 := by rw [← hB]; exact byt7_short hf
    have hby : ∀ (W : World) (a : Option Addr) (c : Nat), RdN W a l0 → Calls Try.prog 82 #[.agg #[.int .i64 (fr : Int), .slice a l0.length c], .int .i64 (n : Int)] W fun e W' => ∃ b2 c2, e = .returned (.tuple #[.slice b2 B.length c2, .int .i64 0]) ∧ RdB W' b2 B ∧ B.length ≤ c2 ∧ W'.ownsRow W.heap.size 5 1 (.slice b2 B.length c2) B.length (cB B) ∧ Below W.heap.size W W' := fun W a c hr => (ubytes_any (n : Int) fr a c l0 W hr (by omega)).mono (by
      intro e W' q
      obtain ⟨b2, c2, q1, q5, q2, q4, q3⟩ := bo_ok q hf
      rw [Int.toNat_natCast, hB] at q1 q2 q4 q5
      exact ⟨b2, c2, q1, q2, q4, q5, q3⟩)
    have hB10 : 9 ≤ B.length := by
      have h1 : 5 ≤ (frm 3 n fr 0 0 l0).length := by unfold frm; simp only [List.length_append, List.length_cons]; omega
      rw [← hB, byt7_len]
      omega
    have hbyg : ∀ (W : World) (a : Option Addr) (c : Nat), RdN W a l0 → Calls Try.prog 82 #[.agg #[.int .i64 (fr : Int), .slice a l0.length c], .int .i64 (n : Int)] W fun e W' => ∃ g c2, e = .returned (.tuple #[.slice (some ⟨g, 0, none⟩) B.length c2, .int .i64 0]) ∧ B.length ≤ c2 ∧ W.heap.size ≤ g ∧ BAt W' g 0 B ∧ W'.ownsRow W.heap.size 5 1 (.slice (some ⟨g, 0, none⟩) B.length c2) B.length (cB B) ∧ Below W.heap.size W W' := fun W a c hr => (hby W a c hr).mono (by
      rintro e W' ⟨b2, c2, q1, q2, q3, q4, q5⟩
      rcases own_form q4 with ⟨_, e2⟩ | ⟨g, c, e1, e2, e3, e4⟩
      · omega
      · cases e1
        exact ⟨g, _, q1, q3, e2, b_own q4 rfl, q4, q5⟩)
    have hLi : ¬ (B.length : Int) = 0 := by omega
    have hLe : ((B.length : Int) == 0) = false := by simpa using hLi
    obtain ⟨t, ht⟩ : ∃ t, a2.tmod (B.length : Int) = t := ⟨_, rfl⟩
    have ht1 : t < (B.length : Int) := by rw [← ht]; exact Int.tmod_lt_of_pos _ (by omega)
    have ht2 : -(B.length : Int) < t := by
      have := Int.tmod_lt_of_pos (-a2) (show 0 < (B.length : Int) by omega)
      rw [Int.neg_tmod, ht] at this
      omega
    have hcut : ∀ kk : Nat, kk < B.length → dec (n : Int) (B.take kk) = .error 76 := fun kk hkk => by
      have := dec_cut (kd := 3) (n := n) (fr := fr) (rd := 0) (N := 0) (l := l0) (by decide) hf (fun _ => rfl) (fun _ => rfl) (m := kk) (by rw [hB]; exact hkk)
      rwa [hB] at this
    have hmore : l3 ≠ [] → dec (n : Int) (B ++ l3) = .error 2 := fun hne => by
      have := dec_more (kd := 3) (n := n) (fr := fr) (rd := 0) (N := 0) (l := l0) (by decide) hf (fun _ => rfl) (fun _ => rfl) hne
      rwa [hB] at this
    have hsame : dec (n : Int) B = .ok (3, fr, 0, 0, l0) := by rw [← hB]; exact hdo
    obtain ⟨ic, hic, hz0, hz1, hz2⟩ := info_partsB
    clear hdo hB hf hrd hri hfr hn hk hk3 hk2
    by_cases hts : t < 0
    · obtain ⟨kk, hkk0⟩ := Int.eq_ofNat_of_zero_le (show 0 ≤ t + (B.length : Int) by omega)
      have hkk : kk < B.length := by omega
      have hkki : (kk : Int) < (B.length : Int) := by omega
      clear ht1 ht2
      have hdc : ∀ (W : World) (g c2 : Nat), g < W.heap.size → kk ≤ c2 → BAt W g 0 B → Calls Try.prog 12 #[.slice (some ⟨g, 0, none⟩) kk c2, .int .i64 (n : Int)] W fun e w' => e = .returned (.tuple #[.nilIface, .int .i64 76]) ∧ Below W.heap.size W w' := fun W g c2 h1 h2 h3 => by
        have hl : (B.take kk).length = kk := by rw [List.length_take]; omega
        have := decode_any (some ⟨g, 0, none⟩) c2 (B.take kk) (n : Int) W (fun _ => ⟨g, 0, rfl, h1, by have := h3.sub 0 kk; simpa using this⟩) (hBB.take kk) (by rw [hl]; exact h2)
        unfold DcO at this
        rw [hcut kk hkk, hl] at this
        exact this
      have h3w := w3
      by_cases hne : l3 = []
      · have HL3 : Hid (l3 = []) := hne
        have hl3i : ((l3.length : Int) == 0) = true := by rw [hne]; rfl
        clear hne
        cases ad3 with
        | none =>
          have hdl : ∀ (W : World) (v : Value), W.ownsRow w.heap.size 5 1 v (B ++ l3).length (cB (B ++ l3)) → Calls Try.prog 12 #[v, .int .i64 (n : Int)] W fun e w' => ∃ a c, e = .returned (.tuple #[.iface 58 (.agg #[.int .i64 (fr : Int), .slice a l0.length c]), .int .i64 0]) ∧ Below W.heap.size W w' := fun W v ho => by
            obtain ⟨ad, cap, rfl, hr⟩ := RdB.own ho
            have hcap : (B ++ l3).length ≤ cap := by
              rcases own_form ho with ⟨e1, e2⟩ | ⟨g, c, e1, _, _, e4⟩
              · omega
              · cases e1; exact e4
            have := decode_any ad cap (B ++ l3) (n : Int) W hr (hBB.append hb3) hcap
            unfold DcO at this
            rw [HL3.out, List.append_nil] at this ⊢
            rw [hsame] at this
            refine this.mono ?_
            rintro e W' ⟨a, c, q1, _, q3⟩
            exact ⟨a, c, q1, q3⟩
          clear hmore hsame hcut hBB
          go_enter Try.func6, Try.ntmps6
          go_wp2_with (first | (go_at_call 9; (with_reducible refine hki.mono ?_); rintro e u1 ⟨rfl, hbk⟩; have hB1 := hB0.below hbk; obtain ⟨e0, e1, e2, e3, e4, e5, e6, e7⟩ := hB1.cells; obtain ⟨z0, z1, z2, z3, z4, z5, z6, z7⟩ := hB1.thaw; have hBU : RB (((((((((u1.setCell ⟨w.heap.size, 0, none⟩ (.int .i64 (3 : Int))).setCell ⟨w.heap.size, 1, none⟩ (.int .i64 (fr : Int))).setCell ⟨w.heap.size, 2, none⟩ (.int .i64 0)).setCell ⟨w.heap.size, 3, none⟩ (.int .u32 (wd 0 0 : Nat))).setCell ⟨w.heap.size, 4, none⟩ (.int .u32 (wd 0 1 : Nat))).setCell ⟨w.heap.size, 5, none⟩ (.int .u32 (wd 0 2 : Nat))).setCell ⟨w.heap.size, 6, none⟩ (.int .u32 (wd 0 3 : Nat)))).setCell ⟨w.heap.size, 7, none⟩ (.slice ad0 l0.length cap0)) w.heap.size 3 (fr : Int) 0 0 (.slice ad0 l0.length cap0) := hB1.set8 3 (fr : Int) 0 0 (.slice ad0 l0.length cap0); have hbU : Below w.heap.size w (((((((((u1.setCell ⟨w.heap.size, 0, none⟩ (.int .i64 (3 : Int))).setCell ⟨w.heap.size, 1, none⟩ (.int .i64 (fr : Int))).setCell ⟨w.heap.size, 2, none⟩ (.int .i64 0)).setCell ⟨w.heap.size, 3, none⟩ (.int .u32 (wd 0 0 : Nat))).setCell ⟨w.heap.size, 4, none⟩ (.int .u32 (wd 0 1 : Nat))).setCell ⟨w.heap.size, 5, none⟩ (.int .u32 (wd 0 2 : Nat))).setCell ⟨w.heap.size, 6, none⟩ (.int .u32 (wd 0 3 : Nat)))).setCell ⟨w.heap.size, 7, none⟩ (.slice ad0 l0.length cap0)) := below8 (bel2 hb0 hbk) 3 (fr : Int) 0 0 (.slice ad0 l0.length cap0); obtain ⟨U, hU⟩ : ∃ U, ((((((((u1.setCell ⟨w.heap.size, 0, none⟩ (.int .i64 (3 : Int))).setCell ⟨w.heap.size, 1, none⟩ (.int .i64 (fr : Int))).setCell ⟨w.heap.size, 2, none⟩ (.int .i64 0)).setCell ⟨w.heap.size, 3, none⟩ (.int .u32 (wd 0 0 : Nat))).setCell ⟨w.heap.size, 4, none⟩ (.int .u32 (wd 0 1 : Nat))).setCell ⟨w.heap.size, 5, none⟩ (.int .u32 (wd 0 2 : Nat))).setCell ⟨w.heap.size, 6, none⟩ (.int .u32 (wd 0 3 : Nat)))).setCell ⟨w.heap.size, 7, none⟩ (.slice ad0 l0.length cap0) = U := ⟨_, rfl⟩; rw [hU] at hBU hbU; obtain ⟨d0, d1, d2, d3, d4, d5, d6, d7⟩ := hBU.cells; have hRU := w0.carry hbU) | (go_at_call 11; (with_reducible refine (hlay _).mono ?_); rintro e u2 ⟨rfl, hb2⟩; have hbU2 := bel2 hbU hb2; have hBU2 := hBU.below hb2; have hRU2 := hRU.carry hb2) | (go_at_call 82; (with_reducible refine (hbyg _ _ _ hRU2).mono ?_); rintro e u3 ⟨g, c2x, rfl, hl3, hg3, hat3, ho3, hb3⟩; have hbU3 := bel2 hbU2 hb3; have hgU : w.heap.size ≤ g := Nat.le_trans hbU2.size hg3; have hgV : g < u3.heap.size := own_lt ho3 g rfl; have hkc : kk ≤ c2x := (by omega); have hkci : (kk : Int) ≤ (c2x : Int) := (by omega)) | (go_at_call 12; (with_reducible refine (hdc _ g c2x hgV hkc hat3).mono ?_); rintro e u4 ⟨rfl, hb4⟩; have hbU4 := bel2 hbU3 hb4; have hat4 : BAt u4 g 0 B := hat3.carry (hb4.block g hgV); have hsz4 : w.heap.size ≤ u4.heap.size := hbU4.size) | (at_builtin; refine append_none rfl _ _ 30 rfl w.heap.size 5 ic 1 Try.underlying30 hic _ B.length (cB B) rfl ho6' cap3 l3.length (by rw [HL3.out]; rfl) rfl ?_; have hb7 := hb6; have ho7 : u6.ownsRow w.heap.size 5 1 v6 (B ++ l3).length (cB (B ++ l3)) := (by rw [HL3.out, List.append_nil]; exact ho6')) | (at_builtin; refine wpList_append_own_at _ rfl _ _ 30 rfl w.heap.size 5 ic _ 1 1 Try.underlying30 hic hz0 hz1 hz2 rfl (by decide) _ 0 [] rfl (World.ownsRow_nil _ _ _ _) ⟨g, 0, none⟩ B.length c2x (cB B) rfl (by rw [cB_len, Nat.mul_one]) (b_src hat4) (cB_one B) (by unfold maxLen; omega) (by omega) hsz4 ?_; intro v6 u6 ho6 hg6 _ _; have hb6 : Below w.heap.size w u6 := hbU4.grown hg6 hsz4 (fun q e => by cases e); have ho6' : u6.ownsRow w.heap.size 5 1 v6 B.length (cB B) := (by simpa using ho6); have hsz6 := hb6.size; have h36 := h3w.carry hb6) | (go_at_call 12; (with_reducible refine (hdl _ _ ho7).mono ?_); rintro e u8 ⟨a, c, rfl, hb8⟩; have hbU8 := bel2 hb7 hb8) | (go_at_call 10; (with_reducible refine (hal _).mono ?_); rintro e wv ⟨rfl, hbv⟩))
          go_ret
          exact ⟨rfl, bel2 hbU8 hbv⟩
        | some aS =>
          have hsrc : ∀ W, RdB W (some aS) l3 → ∀ j u, (cB l3)[j]? = some u → W.cell? (aS.add j) = some u := fun W _ j u hj => by rw [HL3.out] at hj; simp [cB] at hj
          have hdl : ∀ (W : World) (v : Value), W.ownsRow w.heap.size 5 1 v (B ++ l3).length (cB (B ++ l3)) → Calls Try.prog 12 #[v, .int .i64 (n : Int)] W fun e w' => ∃ a c, e = .returned (.tuple #[.iface 58 (.agg #[.int .i64 (fr : Int), .slice a l0.length c]), .int .i64 0]) ∧ Below W.heap.size W w' := fun W v ho => by
            obtain ⟨ad, cap, rfl, hr⟩ := RdB.own ho
            have hcap : (B ++ l3).length ≤ cap := by
              rcases own_form ho with ⟨e1, e2⟩ | ⟨g, c, e1, _, _, e4⟩
              · omega
              · cases e1; exact e4
            have := decode_any ad cap (B ++ l3) (n : Int) W hr (hBB.append hb3) hcap
            unfold DcO at this
            rw [HL3.out, List.append_nil] at this ⊢
            rw [hsame] at this
            refine this.mono ?_
            rintro e W' ⟨a, c, q1, _, q3⟩
            exact ⟨a, c, q1, q3⟩
          clear hmore hsame hcut hBB
          go_enter Try.func6, Try.ntmps6
          go_wp2_with (first | (go_at_call 9; (with_reducible refine hki.mono ?_); rintro e u1 ⟨rfl, hbk⟩; have hB1 := hB0.below hbk; obtain ⟨e0, e1, e2, e3, e4, e5, e6, e7⟩ := hB1.cells; obtain ⟨z0, z1, z2, z3, z4, z5, z6, z7⟩ := hB1.thaw; have hBU : RB (((((((((u1.setCell ⟨w.heap.size, 0, none⟩ (.int .i64 (3 : Int))).setCell ⟨w.heap.size, 1, none⟩ (.int .i64 (fr : Int))).setCell ⟨w.heap.size, 2, none⟩ (.int .i64 0)).setCell ⟨w.heap.size, 3, none⟩ (.int .u32 (wd 0 0 : Nat))).setCell ⟨w.heap.size, 4, none⟩ (.int .u32 (wd 0 1 : Nat))).setCell ⟨w.heap.size, 5, none⟩ (.int .u32 (wd 0 2 : Nat))).setCell ⟨w.heap.size, 6, none⟩ (.int .u32 (wd 0 3 : Nat)))).setCell ⟨w.heap.size, 7, none⟩ (.slice ad0 l0.length cap0)) w.heap.size 3 (fr : Int) 0 0 (.slice ad0 l0.length cap0) := hB1.set8 3 (fr : Int) 0 0 (.slice ad0 l0.length cap0); have hbU : Below w.heap.size w (((((((((u1.setCell ⟨w.heap.size, 0, none⟩ (.int .i64 (3 : Int))).setCell ⟨w.heap.size, 1, none⟩ (.int .i64 (fr : Int))).setCell ⟨w.heap.size, 2, none⟩ (.int .i64 0)).setCell ⟨w.heap.size, 3, none⟩ (.int .u32 (wd 0 0 : Nat))).setCell ⟨w.heap.size, 4, none⟩ (.int .u32 (wd 0 1 : Nat))).setCell ⟨w.heap.size, 5, none⟩ (.int .u32 (wd 0 2 : Nat))).setCell ⟨w.heap.size, 6, none⟩ (.int .u32 (wd 0 3 : Nat)))).setCell ⟨w.heap.size, 7, none⟩ (.slice ad0 l0.length cap0)) := below8 (bel2 hb0 hbk) 3 (fr : Int) 0 0 (.slice ad0 l0.length cap0); obtain ⟨U, hU⟩ : ∃ U, ((((((((u1.setCell ⟨w.heap.size, 0, none⟩ (.int .i64 (3 : Int))).setCell ⟨w.heap.size, 1, none⟩ (.int .i64 (fr : Int))).setCell ⟨w.heap.size, 2, none⟩ (.int .i64 0)).setCell ⟨w.heap.size, 3, none⟩ (.int .u32 (wd 0 0 : Nat))).setCell ⟨w.heap.size, 4, none⟩ (.int .u32 (wd 0 1 : Nat))).setCell ⟨w.heap.size, 5, none⟩ (.int .u32 (wd 0 2 : Nat))).setCell ⟨w.heap.size, 6, none⟩ (.int .u32 (wd 0 3 : Nat)))).setCell ⟨w.heap.size, 7, none⟩ (.slice ad0 l0.length cap0) = U := ⟨_, rfl⟩; rw [hU] at hBU hbU; obtain ⟨d0, d1, d2, d3, d4, d5, d6, d7⟩ := hBU.cells; have hRU := w0.carry hbU) | (go_at_call 11; (with_reducible refine (hlay _).mono ?_); rintro e u2 ⟨rfl, hb2⟩; have hbU2 := bel2 hbU hb2; have hBU2 := hBU.below hb2; have hRU2 := hRU.carry hb2) | (go_at_call 82; (with_reducible refine (hbyg _ _ _ hRU2).mono ?_); rintro e u3 ⟨g, c2x, rfl, hl3, hg3, hat3, ho3, hb3⟩; have hbU3 := bel2 hbU2 hb3; have hgU : w.heap.size ≤ g := Nat.le_trans hbU2.size hg3; have hgV : g < u3.heap.size := own_lt ho3 g rfl; have hkc : kk ≤ c2x := (by omega); have hkci : (kk : Int) ≤ (c2x : Int) := (by omega)) | (go_at_call 12; (with_reducible refine (hdc _ g c2x hgV hkc hat3).mono ?_); rintro e u4 ⟨rfl, hb4⟩; have hbU4 := bel2 hbU3 hb4; have hat4 : BAt u4 g 0 B := hat3.carry (hb4.block g hgV); have hsz4 : w.heap.size ≤ u4.heap.size := hbU4.size) | (at_builtin; refine wpList_append_own_at _ rfl _ _ 30 rfl w.heap.size 5 ic _ 1 1 Try.underlying30 hic hz0 hz1 hz2 rfl (by decide) _ B.length (cB B) rfl ho6' aS l3.length cap3 (cB l3) rfl (by rw [cB_len, Nat.mul_one]) (hsrc _ h36) (cB_one l3) (by unfold maxLen; omega) (by omega) hsz6 ?_; intro v7 u7 ho7x hg7 _ _; have hb7 : Below w.heap.size w u7 := hb6.grown hg7 hsz6 (fun q e => own_block ho6' q e); have ho7 : u7.ownsRow w.heap.size 5 1 v7 (B ++ l3).length (cB (B ++ l3)) := (by rw [cB_app, List.length_append]; exact ho7x)) | (at_builtin; refine wpList_append_own_at _ rfl _ _ 30 rfl w.heap.size 5 ic _ 1 1 Try.underlying30 hic hz0 hz1 hz2 rfl (by decide) _ 0 [] rfl (World.ownsRow_nil _ _ _ _) ⟨g, 0, none⟩ B.length c2x (cB B) rfl (by rw [cB_len, Nat.mul_one]) (b_src hat4) (cB_one B) (by unfold maxLen; omega) (by omega) hsz4 ?_; intro v6 u6 ho6 hg6 _ _; have hb6 : Below w.heap.size w u6 := hbU4.grown hg6 hsz4 (fun q e => by cases e); have ho6' : u6.ownsRow w.heap.size 5 1 v6 B.length (cB B) := (by simpa using ho6); have hsz6 := hb6.size; have h36 := h3w.carry hb6) | (go_at_call 12; (with_reducible refine (hdl _ _ ho7).mono ?_); rintro e u8 ⟨a, c, rfl, hb8⟩; have hbU8 := bel2 hb7 hb8) | (go_at_call 10; (with_reducible refine (hal _).mono ?_); rintro e wv ⟨rfl, hbv⟩))
          go_ret
          exact ⟨rfl, bel2 hbU8 hbv⟩
      · have hl3i : ((l3.length : Int) == 0) = false := by have := List.length_pos_iff.2 hne; simp; omega
        obtain ⟨bS, oS, rfl, _, _⟩ := w3 hne
        obtain ⟨aS, haS⟩ : ∃ aS : Addr, (⟨bS, oS, none⟩ : Addr) = aS := ⟨_, rfl⟩
        rw [haS]
        rw [haS] at h3w
        have hsrc : ∀ W, RdB W (some aS) l3 → ∀ j u, (cB l3)[j]? = some u → W.cell? (aS.add j) = some u := fun W hW j u hj => by
          obtain ⟨b', o', e, _, hat⟩ := hW hne
          cases e
          exact b_src hat j u hj
        have hdl : ∀ (W : World) (v : Value), W.ownsRow w.heap.size 5 1 v (B ++ l3).length (cB (B ++ l3)) → Calls Try.prog 12 #[v, .int .i64 (n : Int)] W fun e w' => e = .returned (.tuple #[.nilIface, .int .i64 2]) ∧ Below W.heap.size W w' := fun W v ho => by
          obtain ⟨ad, cap, rfl, hr⟩ := RdB.own ho
          have hcap : (B ++ l3).length ≤ cap := by
            rcases own_form ho with ⟨e1, e2⟩ | ⟨g, c, e1, _, _, e4⟩
            · omega
            · cases e1; exact e4
          have := decode_any ad cap (B ++ l3) (n : Int) W hr (hBB.append hb3) hcap
          unfold DcO at this
          rw [hmore hne] at this
          exact this
        clear hmore hsame hcut hBB
        go_enter Try.func6, Try.ntmps6
        go_wp2_with (first | (go_at_call 9; (with_reducible refine hki.mono ?_); rintro e u1 ⟨rfl, hbk⟩; have hB1 := hB0.below hbk; obtain ⟨e0, e1, e2, e3, e4, e5, e6, e7⟩ := hB1.cells; obtain ⟨z0, z1, z2, z3, z4, z5, z6, z7⟩ := hB1.thaw; have hBU : RB (((((((((u1.setCell ⟨w.heap.size, 0, none⟩ (.int .i64 (3 : Int))).setCell ⟨w.heap.size, 1, none⟩ (.int .i64 (fr : Int))).setCell ⟨w.heap.size, 2, none⟩ (.int .i64 0)).setCell ⟨w.heap.size, 3, none⟩ (.int .u32 (wd 0 0 : Nat))).setCell ⟨w.heap.size, 4, none⟩ (.int .u32 (wd 0 1 : Nat))).setCell ⟨w.heap.size, 5, none⟩ (.int .u32 (wd 0 2 : Nat))).setCell ⟨w.heap.size, 6, none⟩ (.int .u32 (wd 0 3 : Nat)))).setCell ⟨w.heap.size, 7, none⟩ (.slice ad0 l0.length cap0)) w.heap.size 3 (fr : Int) 0 0 (.slice ad0 l0.length cap0) := hB1.set8 3 (fr : Int) 0 0 (.slice ad0 l0.length cap0); have hbU : Below w.heap.size w (((((((((u1.setCell ⟨w.heap.size, 0, none⟩ (.int .i64 (3 : Int))).setCell ⟨w.heap.size, 1, none⟩ (.int .i64 (fr : Int))).setCell ⟨w.heap.size, 2, none⟩ (.int .i64 0)).setCell ⟨w.heap.size, 3, none⟩ (.int .u32 (wd 0 0 : Nat))).setCell ⟨w.heap.size, 4, none⟩ (.int .u32 (wd 0 1 : Nat))).setCell ⟨w.heap.size, 5, none⟩ (.int .u32 (wd 0 2 : Nat))).setCell ⟨w.heap.size, 6, none⟩ (.int .u32 (wd 0 3 : Nat)))).setCell ⟨w.heap.size, 7, none⟩ (.slice ad0 l0.length cap0)) := below8 (bel2 hb0 hbk) 3 (fr : Int) 0 0 (.slice ad0 l0.length cap0); obtain ⟨U, hU⟩ : ∃ U, ((((((((u1.setCell ⟨w.heap.size, 0, none⟩ (.int .i64 (3 : Int))).setCell ⟨w.heap.size, 1, none⟩ (.int .i64 (fr : Int))).setCell ⟨w.heap.size, 2, none⟩ (.int .i64 0)).setCell ⟨w.heap.size, 3, none⟩ (.int .u32 (wd 0 0 : Nat))).setCell ⟨w.heap.size, 4, none⟩ (.int .u32 (wd 0 1 : Nat))).setCell ⟨w.heap.size, 5, none⟩ (.int .u32 (wd 0 2 : Nat))).setCell ⟨w.heap.size, 6, none⟩ (.int .u32 (wd 0 3 : Nat)))).setCell ⟨w.heap.size, 7, none⟩ (.slice ad0 l0.length cap0) = U := ⟨_, rfl⟩; rw [hU] at hBU hbU; obtain ⟨d0, d1, d2, d3, d4, d5, d6, d7⟩ := hBU.cells; have hRU := w0.carry hbU) | (go_at_call 11; (with_reducible refine (hlay _).mono ?_); rintro e u2 ⟨rfl, hb2⟩; have hbU2 := bel2 hbU hb2; have hBU2 := hBU.below hb2; have hRU2 := hRU.carry hb2) | (go_at_call 82; (with_reducible refine (hbyg _ _ _ hRU2).mono ?_); rintro e u3 ⟨g, c2x, rfl, hl3, hg3, hat3, ho3, hb3⟩; have hbU3 := bel2 hbU2 hb3; have hgU : w.heap.size ≤ g := Nat.le_trans hbU2.size hg3; have hgV : g < u3.heap.size := own_lt ho3 g rfl; have hkc : kk ≤ c2x := (by omega); have hkci : (kk : Int) ≤ (c2x : Int) := (by omega)) | (go_at_call 12; (with_reducible refine (hdc _ g c2x hgV hkc hat3).mono ?_); rintro e u4 ⟨rfl, hb4⟩; have hbU4 := bel2 hbU3 hb4; have hat4 : BAt u4 g 0 B := hat3.carry (hb4.block g hgV); have hsz4 : w.heap.size ≤ u4.heap.size := hbU4.size) | (at_builtin; refine wpList_append_own_at _ rfl _ _ 30 rfl w.heap.size 5 ic _ 1 1 Try.underlying30 hic hz0 hz1 hz2 rfl (by decide) _ B.length (cB B) rfl ho6' aS l3.length cap3 (cB l3) rfl (by rw [cB_len, Nat.mul_one]) (hsrc _ h36) (cB_one l3) (by unfold maxLen; omega) (by omega) hsz6 ?_; intro v7 u7 ho7x hg7 _ _; have hb7 : Below w.heap.size w u7 := hb6.grown hg7 hsz6 (fun q e => own_block ho6' q e); have ho7 : u7.ownsRow w.heap.size 5 1 v7 (B ++ l3).length (cB (B ++ l3)) := (by rw [cB_app, List.length_append]; exact ho7x)) | (at_builtin; refine wpList_append_own_at _ rfl _ _ 30 rfl w.heap.size 5 ic _ 1 1 Try.underlying30 hic hz0 hz1 hz2 rfl (by decide) _ 0 [] rfl (World.ownsRow_nil _ _ _ _) ⟨g, 0, none⟩ B.length c2x (cB B) rfl (by rw [cB_len, Nat.mul_one]) (b_src hat4) (cB_one B) (by unfold maxLen; omega) (by omega) hsz4 ?_; intro v6 u6 ho6 hg6 _ _; have hb6 : Below w.heap.size w u6 := hbU4.grown hg6 hsz4 (fun q e => by cases e); have ho6' : u6.ownsRow w.heap.size 5 1 v6 B.length (cB B) := (by simpa using ho6); have hsz6 := hb6.size; have h36 := h3w.carry hb6) | (go_at_call 12; (with_reducible refine (hdl _ _ ho7).mono ?_); rintro e u8 ⟨rfl, hb8⟩; have hbU8 := bel2 hb7 hb8) | (go_at_call 10; (with_reducible refine (hal _).mono ?_); rintro e wv ⟨rfl, hbv⟩))
        go_ret
        exact ⟨rfl, bel2 hbU8 hbv⟩
    · obtain ⟨kk, rfl⟩ := Int.eq_ofNat_of_zero_le (show 0 ≤ t by omega)
      have hkk : kk < B.length := by omega
      have hkki : (kk : Int) < (B.length : Int) := by omega
      have hts' : ¬ ((kk : Int) < 0) := by omega
      clear ht1 ht2
      have hdc : ∀ (W : World) (g c2 : Nat), g < W.heap.size → kk ≤ c2 → BAt W g 0 B → Calls Try.prog 12 #[.slice (some ⟨g, 0, none⟩) kk c2, .int .i64 (n : Int)] W fun e w' => e = .returned (.tuple #[.nilIface, .int .i64 76]) ∧ Below W.heap.size W w' := fun W g c2 h1 h2 h3 => by
        have hl : (B.take kk).length = kk := by rw [List.length_take]; omega
        have := decode_any (some ⟨g, 0, none⟩) c2 (B.take kk) (n : Int) W (fun _ => ⟨g, 0, rfl, h1, by have := h3.sub 0 kk; simpa using this⟩) (hBB.take kk) (by rw [hl]; exact h2)
        unfold DcO at this
        rw [hcut kk hkk, hl] at this
        exact this
      have h3w := w3
      by_cases hne : l3 = []
      · have HL3 : Hid (l3 = []) := hne
        have hl3i : ((l3.length : Int) == 0) = true := by rw [hne]; rfl
        clear hne
        cases ad3 with
        | none =>
          have hdl : ∀ (W : World) (v : Value), W.ownsRow w.heap.size 5 1 v (B ++ l3).length (cB (B ++ l3)) → Calls Try.prog 12 #[v, .int .i64 (n : Int)] W fun e w' => ∃ a c, e = .returned (.tuple #[.iface 58 (.agg #[.int .i64 (fr : Int), .slice a l0.length c]), .int .i64 0]) ∧ Below W.heap.size W w' := fun W v ho => by
            obtain ⟨ad, cap, rfl, hr⟩ := RdB.own ho
            have hcap : (B ++ l3).length ≤ cap := by
              rcases own_form ho with ⟨e1, e2⟩ | ⟨g, c, e1, _, _, e4⟩
              · omega
              · cases e1; exact e4
            have := decode_any ad cap (B ++ l3) (n : Int) W hr (hBB.append hb3) hcap
            unfold DcO at this
            rw [HL3.out, List.append_nil] at this ⊢
            rw [hsame] at this
            refine this.mono ?_
            rintro e W' ⟨a, c, q1, _, q3⟩
            exact ⟨a, c, q1, q3⟩
          clear hmore hsame hcut hBB
          go_enter Try.func6, Try.ntmps6
          go_wp2_with (first | (go_at_call 9; (with_reducible refine hki.mono ?_); rintro e u1 ⟨rfl, hbk⟩; have hB1 := hB0.below hbk; obtain ⟨e0, e1, e2, e3, e4, e5, e6, e7⟩ := hB1.cells; obtain ⟨z0, z1, z2, z3, z4, z5, z6, z7⟩ := hB1.thaw; have hBU : RB (((((((((u1.setCell ⟨w.heap.size, 0, none⟩ (.int .i64 (3 : Int))).setCell ⟨w.heap.size, 1, none⟩ (.int .i64 (fr : Int))).setCell ⟨w.heap.size, 2, none⟩ (.int .i64 0)).setCell ⟨w.heap.size, 3, none⟩ (.int .u32 (wd 0 0 : Nat))).setCell ⟨w.heap.size, 4, none⟩ (.int .u32 (wd 0 1 : Nat))).setCell ⟨w.heap.size, 5, none⟩ (.int .u32 (wd 0 2 : Nat))).setCell ⟨w.heap.size, 6, none⟩ (.int .u32 (wd 0 3 : Nat)))).setCell ⟨w.heap.size, 7, none⟩ (.slice ad0 l0.length cap0)) w.heap.size 3 (fr : Int) 0 0 (.slice ad0 l0.length cap0) := hB1.set8 3 (fr : Int) 0 0 (.slice ad0 l0.length cap0); have hbU : Below w.heap.size w (((((((((u1.setCell ⟨w.heap.size, 0, none⟩ (.int .i64 (3 : Int))).setCell ⟨w.heap.size, 1, none⟩ (.int .i64 (fr : Int))).setCell ⟨w.heap.size, 2, none⟩ (.int .i64 0)).setCell ⟨w.heap.size, 3, none⟩ (.int .u32 (wd 0 0 : Nat))).setCell ⟨w.heap.size, 4, none⟩ (.int .u32 (wd 0 1 : Nat))).setCell ⟨w.heap.size, 5, none⟩ (.int .u32 (wd 0 2 : Nat))).setCell ⟨w.heap.size, 6, none⟩ (.int .u32 (wd 0 3 : Nat)))).setCell ⟨w.heap.size, 7, none⟩ (.slice ad0 l0.length cap0)) := below8 (bel2 hb0 hbk) 3 (fr : Int) 0 0 (.slice ad0 l0.length cap0); obtain ⟨U, hU⟩ : ∃ U, ((((((((u1.setCell ⟨w.heap.size, 0, none⟩ (.int .i64 (3 : Int))).setCell ⟨w.heap.size, 1, none⟩ (.int .i64 (fr : Int))).setCell ⟨w.heap.size, 2, none⟩ (.int .i64 0)).setCell ⟨w.heap.size, 3, none⟩ (.int .u32 (wd 0 0 : Nat))).setCell ⟨w.heap.size, 4, none⟩ (.int .u32 (wd 0 1 : Nat))).setCell ⟨w.heap.size, 5, none⟩ (.int .u32 (wd 0 2 : Nat))).setCell ⟨w.heap.size, 6, none⟩ (.int .u32 (wd 0 3 : Nat)))).setCell ⟨w.heap.size, 7, none⟩ (.slice ad0 l0.length cap0) = U := ⟨_, rfl⟩; rw [hU] at hBU hbU; obtain ⟨d0, d1, d2, d3, d4, d5, d6, d7⟩ := hBU.cells; have hRU := w0.carry hbU) | (go_at_call 11; (with_reducible refine (hlay _).mono ?_); rintro e u2 ⟨rfl, hb2⟩; have hbU2 := bel2 hbU hb2; have hBU2 := hBU.below hb2; have hRU2 := hRU.carry hb2) | (go_at_call 82; (with_reducible refine (hbyg _ _ _ hRU2).mono ?_); rintro e u3 ⟨g, c2x, rfl, hl3, hg3, hat3, ho3, hb3⟩; have hbU3 := bel2 hbU2 hb3; have hgU : w.heap.size ≤ g := Nat.le_trans hbU2.size hg3; have hgV : g < u3.heap.size := own_lt ho3 g rfl; have hkc : kk ≤ c2x := (by omega); have hkci : (kk : Int) ≤ (c2x : Int) := (by omega)) | (go_at_call 12; (with_reducible refine (hdc _ g c2x hgV hkc hat3).mono ?_); rintro e u4 ⟨rfl, hb4⟩; have hbU4 := bel2 hbU3 hb4; have hat4 : BAt u4 g 0 B := hat3.carry (hb4.block g hgV); have hsz4 : w.heap.size ≤ u4.heap.size := hbU4.size) | (at_builtin; refine append_none rfl _ _ 30 rfl w.heap.size 5 ic 1 Try.underlying30 hic _ B.length (cB B) rfl ho6' cap3 l3.length (by rw [HL3.out]; rfl) rfl ?_; have hb7 := hb6; have ho7 : u6.ownsRow w.heap.size 5 1 v6 (B ++ l3).length (cB (B ++ l3)) := (by rw [HL3.out, List.append_nil]; exact ho6')) | (at_builtin; refine wpList_append_own_at _ rfl _ _ 30 rfl w.heap.size 5 ic _ 1 1 Try.underlying30 hic hz0 hz1 hz2 rfl (by decide) _ 0 [] rfl (World.ownsRow_nil _ _ _ _) ⟨g, 0, none⟩ B.length c2x (cB B) rfl (by rw [cB_len, Nat.mul_one]) (b_src hat4) (cB_one B) (by unfold maxLen; omega) (by omega) hsz4 ?_; intro v6 u6 ho6 hg6 _ _; have hb6 : Below w.heap.size w u6 := hbU4.grown hg6 hsz4 (fun q e => by cases e); have ho6' : u6.ownsRow w.heap.size 5 1 v6 B.length (cB B) := (by simpa using ho6); have hsz6 := hb6.size; have h36 := h3w.carry hb6) | (go_at_call 12; (with_reducible refine (hdl _ _ ho7).mono ?_); rintro e u8 ⟨a, c, rfl, hb8⟩; have hbU8 := bel2 hb7 hb8) | (go_at_call 10; (with_reducible refine (hal _).mono ?_); rintro e wv ⟨rfl, hbv⟩))
          go_ret
          exact ⟨rfl, bel2 hbU8 hbv⟩
        | some aS =>
          have hsrc : ∀ W, RdB W (some aS) l3 → ∀ j u, (cB l3)[j]? = some u → W.cell? (aS.add j) = some u := fun W _ j u hj => by rw [HL3.out] at hj; simp [cB] at hj
          have hdl : ∀ (W : World) (v : Value), W.ownsRow w.heap.size 5 1 v (B ++ l3).length (cB (B ++ l3)) → Calls Try.prog 12 #[v, .int .i64 (n : Int)] W fun e w' => ∃ a c, e = .returned (.tuple #[.iface 58 (.agg #[.int .i64 (fr : Int), .slice a l0.length c]), .int .i64 0]) ∧ Below W.heap.size W w' := fun W v ho => by
            obtain ⟨ad, cap, rfl, hr⟩ := RdB.own ho
            have hcap : (B ++ l3).length ≤ cap := by
              rcases own_form ho with ⟨e1, e2⟩ | ⟨g, c, e1, _, _, e4⟩
              · omega
              · cases e1; exact e4
            have := decode_any ad cap (B ++ l3) (n : Int) W hr (hBB.append hb3) hcap
            unfold DcO at this
            rw [HL3.out, List.append_nil] at this ⊢
            rw [hsame] at this
            refine this.mono ?_
            rintro e W' ⟨a, c, q1, _, q3⟩
            exact ⟨a, c, q1, q3⟩
          clear hmore hsame hcut hBB
          go_enter Try.func6, Try.ntmps6
          go_wp2_with (first | (go_at_call 9; (with_reducible refine hki.mono ?_); rintro e u1 ⟨rfl, hbk⟩; have hB1 := hB0.below hbk; obtain ⟨e0, e1, e2, e3, e4, e5, e6, e7⟩ := hB1.cells; obtain ⟨z0, z1, z2, z3, z4, z5, z6, z7⟩ := hB1.thaw; have hBU : RB (((((((((u1.setCell ⟨w.heap.size, 0, none⟩ (.int .i64 (3 : Int))).setCell ⟨w.heap.size, 1, none⟩ (.int .i64 (fr : Int))).setCell ⟨w.heap.size, 2, none⟩ (.int .i64 0)).setCell ⟨w.heap.size, 3, none⟩ (.int .u32 (wd 0 0 : Nat))).setCell ⟨w.heap.size, 4, none⟩ (.int .u32 (wd 0 1 : Nat))).setCell ⟨w.heap.size, 5, none⟩ (.int .u32 (wd 0 2 : Nat))).setCell ⟨w.heap.size, 6, none⟩ (.int .u32 (wd 0 3 : Nat)))).setCell ⟨w.heap.size, 7, none⟩ (.slice ad0 l0.length cap0)) w.heap.size 3 (fr : Int) 0 0 (.slice ad0 l0.length cap0) := hB1.set8 3 (fr : Int) 0 0 (.slice ad0 l0.length cap0); have hbU : Below w.heap.size w (((((((((u1.setCell ⟨w.heap.size, 0, none⟩ (.int .i64 (3 : Int))).setCell ⟨w.heap.size, 1, none⟩ (.int .i64 (fr : Int))).setCell ⟨w.heap.size, 2, none⟩ (.int .i64 0)).setCell ⟨w.heap.size, 3, none⟩ (.int .u32 (wd 0 0 : Nat))).setCell ⟨w.heap.size, 4, none⟩ (.int .u32 (wd 0 1 : Nat))).setCell ⟨w.heap.size, 5, none⟩ (.int .u32 (wd 0 2 : Nat))).setCell ⟨w.heap.size, 6, none⟩ (.int .u32 (wd 0 3 : Nat)))).setCell ⟨w.heap.size, 7, none⟩ (.slice ad0 l0.length cap0)) := below8 (bel2 hb0 hbk) 3 (fr : Int) 0 0 (.slice ad0 l0.length cap0); obtain ⟨U, hU⟩ : ∃ U, ((((((((u1.setCell ⟨w.heap.size, 0, none⟩ (.int .i64 (3 : Int))).setCell ⟨w.heap.size, 1, none⟩ (.int .i64 (fr : Int))).setCell ⟨w.heap.size, 2, none⟩ (.int .i64 0)).setCell ⟨w.heap.size, 3, none⟩ (.int .u32 (wd 0 0 : Nat))).setCell ⟨w.heap.size, 4, none⟩ (.int .u32 (wd 0 1 : Nat))).setCell ⟨w.heap.size, 5, none⟩ (.int .u32 (wd 0 2 : Nat))).setCell ⟨w.heap.size, 6, none⟩ (.int .u32 (wd 0 3 : Nat)))).setCell ⟨w.heap.size, 7, none⟩ (.slice ad0 l0.length cap0) = U := ⟨_, rfl⟩; rw [hU] at hBU hbU; obtain ⟨d0, d1, d2, d3, d4, d5, d6, d7⟩ := hBU.cells; have hRU := w0.carry hbU) | (go_at_call 11; (with_reducible refine (hlay _).mono ?_); rintro e u2 ⟨rfl, hb2⟩; have hbU2 := bel2 hbU hb2; have hBU2 := hBU.below hb2; have hRU2 := hRU.carry hb2) | (go_at_call 82; (with_reducible refine (hbyg _ _ _ hRU2).mono ?_); rintro e u3 ⟨g, c2x, rfl, hl3, hg3, hat3, ho3, hb3⟩; have hbU3 := bel2 hbU2 hb3; have hgU : w.heap.size ≤ g := Nat.le_trans hbU2.size hg3; have hgV : g < u3.heap.size := own_lt ho3 g rfl; have hkc : kk ≤ c2x := (by omega); have hkci : (kk : Int) ≤ (c2x : Int) := (by omega)) | (go_at_call 12; (with_reducible refine (hdc _ g c2x hgV hkc hat3).mono ?_); rintro e u4 ⟨rfl, hb4⟩; have hbU4 := bel2 hbU3 hb4; have hat4 : BAt u4 g 0 B := hat3.carry (hb4.block g hgV); have hsz4 : w.heap.size ≤ u4.heap.size := hbU4.size) | (at_builtin; refine wpList_append_own_at _ rfl _ _ 30 rfl w.heap.size 5 ic _ 1 1 Try.underlying30 hic hz0 hz1 hz2 rfl (by decide) _ B.length (cB B) rfl ho6' aS l3.length cap3 (cB l3) rfl (by rw [cB_len, Nat.mul_one]) (hsrc _ h36) (cB_one l3) (by unfold maxLen; omega) (by omega) hsz6 ?_; intro v7 u7 ho7x hg7 _ _; have hb7 : Below w.heap.size w u7 := hb6.grown hg7 hsz6 (fun q e => own_block ho6' q e); have ho7 : u7.ownsRow w.heap.size 5 1 v7 (B ++ l3).length (cB (B ++ l3)) := (by rw [cB_app, List.length_append]; exact ho7x)) | (at_builtin; refine wpList_append_own_at _ rfl _ _ 30 rfl w.heap.size 5 ic _ 1 1 Try.underlying30 hic hz0 hz1 hz2 rfl (by decide) _ 0 [] rfl (World.ownsRow_nil _ _ _ _) ⟨g, 0, none⟩ B.length c2x (cB B) rfl (by rw [cB_len, Nat.mul_one]) (b_src hat4) (cB_one B) (by unfold maxLen; omega) (by omega) hsz4 ?_; intro v6 u6 ho6 hg6 _ _; have hb6 : Below w.heap.size w u6 := hbU4.grown hg6 hsz4 (fun q e => by cases e); have ho6' : u6.ownsRow w.heap.size 5 1 v6 B.length (cB B) := (by simpa using ho6); have hsz6 := hb6.size; have h36 := h3w.carry hb6) | (go_at_call 12; (with_reducible refine (hdl _ _ ho7).mono ?_); rintro e u8 ⟨a, c, rfl, hb8⟩; have hbU8 := bel2 hb7 hb8) | (go_at_call 10; (with_reducible refine (hal _).mono ?_); rintro e wv ⟨rfl, hbv⟩))
          go_ret
          exact ⟨rfl, bel2 hbU8 hbv⟩
      · have hl3i : ((l3.length : Int) == 0) = false := by have := List.length_pos_iff.2 hne; simp; omega
        obtain ⟨bS, oS, rfl, _, _⟩ := w3 hne
        obtain ⟨aS, haS⟩ : ∃ aS : Addr, (⟨bS, oS, none⟩ : Addr) = aS := ⟨_, rfl⟩
        rw [haS]
        rw [haS] at h3w
        have hsrc : ∀ W, RdB W (some aS) l3 → ∀ j u, (cB l3)[j]? = some u → W.cell? (aS.add j) = some u := fun W hW j u hj => by
          obtain ⟨b', o', e, _, hat⟩ := hW hne
          cases e
          exact b_src hat j u hj
        have hdl : ∀ (W : World) (v : Value), W.ownsRow w.heap.size 5 1 v (B ++ l3).length (cB (B ++ l3)) → Calls Try.prog 12 #[v, .int .i64 (n : Int)] W fun e w' => e = .returned (.tuple #[.nilIface, .int .i64 2]) ∧ Below W.heap.size W w' := fun W v ho => by
          obtain ⟨ad, cap, rfl, hr⟩ := RdB.own ho
          have hcap : (B ++ l3).length ≤ cap := by
            rcases own_form ho with ⟨e1, e2⟩ | ⟨g, c, e1, _, _, e4⟩
            · omega
            · cases e1; exact e4
          have := decode_any ad cap (B ++ l3) (n : Int) W hr (hBB.append hb3) hcap
          unfold DcO at this
          rw [hmore hne] at this
          exact this
        clear hmore hsame hcut hBB
        go_enter Try.func6, Try.ntmps6
        go_wp2_with (first | (go_at_call 9; (with_reducible refine hki.mono ?_); rintro e u1 ⟨rfl, hbk⟩; have hB1 := hB0.below hbk; obtain ⟨e0, e1, e2, e3, e4, e5, e6, e7⟩ := hB1.cells; obtain ⟨z0, z1, z2, z3, z4, z5, z6, z7⟩ := hB1.thaw; have hBU : RB (((((((((u1.setCell ⟨w.heap.size, 0, none⟩ (.int .i64 (3 : Int))).setCell ⟨w.heap.size, 1, none⟩ (.int .i64 (fr : Int))).setCell ⟨w.heap.size, 2, none⟩ (.int .i64 0)).setCell ⟨w.heap.size, 3, none⟩ (.int .u32 (wd 0 0 : Nat))).setCell ⟨w.heap.size, 4, none⟩ (.int .u32 (wd 0 1 : Nat))).setCell ⟨w.heap.size, 5, none⟩ (.int .u32 (wd 0 2 : Nat))).setCell ⟨w.heap.size, 6, none⟩ (.int .u32 (wd 0 3 : Nat)))).setCell ⟨w.heap.size, 7, none⟩ (.slice ad0 l0.length cap0)) w.heap.size 3 (fr : Int) 0 0 (.slice ad0 l0.length cap0) := hB1.set8 3 (fr : Int) 0 0 (.slice ad0 l0.length cap0); have hbU : Below w.heap.size w (((((((((u1.setCell ⟨w.heap.size, 0, none⟩ (.int .i64 (3 : Int))).setCell ⟨w.heap.size, 1, none⟩ (.int .i64 (fr : Int))).setCell ⟨w.heap.size, 2, none⟩ (.int .i64 0)).setCell ⟨w.heap.size, 3, none⟩ (.int .u32 (wd 0 0 : Nat))).setCell ⟨w.heap.size, 4, none⟩ (.int .u32 (wd 0 1 : Nat))).setCell ⟨w.heap.size, 5, none⟩ (.int .u32 (wd 0 2 : Nat))).setCell ⟨w.heap.size, 6, none⟩ (.int .u32 (wd 0 3 : Nat)))).setCell ⟨w.heap.size, 7, none⟩ (.slice ad0 l0.length cap0)) := below8 (bel2 hb0 hbk) 3 (fr : Int) 0 0 (.slice ad0 l0.length cap0); obtain ⟨U, hU⟩ : ∃ U, ((((((((u1.setCell ⟨w.heap.size, 0, none⟩ (.int .i64 (3 : Int))).setCell ⟨w.heap.size, 1, none⟩ (.int .i64 (fr : Int))).setCell ⟨w.heap.size, 2, none⟩ (.int .i64 0)).setCell ⟨w.heap.size, 3, none⟩ (.int .u32 (wd 0 0 : Nat))).setCell ⟨w.heap.size, 4, none⟩ (.int .u32 (wd 0 1 : Nat))).setCell ⟨w.heap.size, 5, none⟩ (.int .u32 (wd 0 2 : Nat))).setCell ⟨w.heap.size, 6, none⟩ (.int .u32 (wd 0 3 : Nat)))).setCell ⟨w.heap.size, 7, none⟩ (.slice ad0 l0.length cap0) = U := ⟨_, rfl⟩; rw [hU] at hBU hbU; obtain ⟨d0, d1, d2, d3, d4, d5, d6, d7⟩ := hBU.cells; have hRU := w0.carry hbU) | (go_at_call 11; (with_reducible refine (hlay _).mono ?_); rintro e u2 ⟨rfl, hb2⟩; have hbU2 := bel2 hbU hb2; have hBU2 := hBU.below hb2; have hRU2 := hRU.carry hb2) | (go_at_call 82; (with_reducible refine (hbyg _ _ _ hRU2).mono ?_); rintro e u3 ⟨g, c2x, rfl, hl3, hg3, hat3, ho3, hb3⟩; have hbU3 := bel2 hbU2 hb3; have hgU : w.heap.size ≤ g := Nat.le_trans hbU2.size hg3; have hgV : g < u3.heap.size := own_lt ho3 g rfl; have hkc : kk ≤ c2x := (by omega); have hkci : (kk : Int) ≤ (c2x : Int) := (by omega)) | (go_at_call 12; (with_reducible refine (hdc _ g c2x hgV hkc hat3).mono ?_); rintro e u4 ⟨rfl, hb4⟩; have hbU4 := bel2 hbU3 hb4; have hat4 : BAt u4 g 0 B := hat3.carry (hb4.block g hgV); have hsz4 : w.heap.size ≤ u4.heap.size := hbU4.size) | (at_builtin; refine wpList_append_own_at _ rfl _ _ 30 rfl w.heap.size 5 ic _ 1 1 Try.underlying30 hic hz0 hz1 hz2 rfl (by decide) _ B.length (cB B) rfl ho6' aS l3.length cap3 (cB l3) rfl (by rw [cB_len, Nat.mul_one]) (hsrc _ h36) (cB_one l3) (by unfold maxLen; omega) (by omega) hsz6 ?_; intro v7 u7 ho7x hg7 _ _; have hb7 : Below w.heap.size w u7 := hb6.grown hg7 hsz6 (fun q e => own_block ho6' q e); have ho7 : u7.ownsRow w.heap.size 5 1 v7 (B ++ l3).length (cB (B ++ l3)) := (by rw [cB_app, List.length_append]; exact ho7x)) | (at_builtin; refine wpList_append_own_at _ rfl _ _ 30 rfl w.heap.size 5 ic _ 1 1 Try.underlying30 hic hz0 hz1 hz2 rfl (by decide) _ 0 [] rfl (World.ownsRow_nil _ _ _ _) ⟨g, 0, none⟩ B.length c2x (cB B) rfl (by rw [cB_len, Nat.mul_one]) (b_src hat4) (cB_one B) (by unfold maxLen; omega) (by omega) hsz4 ?_; intro v6 u6 ho6 hg6 _ _; have hb6 : Below w.heap.size w u6 := hbU4.grown hg6 hsz4 (fun q e => by cases e); have ho6' : u6.ownsRow w.heap.size 5 1 v6 B.length (cB B) := (by simpa using ho6); have hsz6 := hb6.size; have h36 := h3w.carry hb6) | (go_at_call 12; (with_reducible refine (hdl _ _ ho7).mono ?_); rintro e u8 ⟨rfl, hb8⟩; have hbU8 := bel2 hb7 hb8) | (go_at_call 10; (with_reducible refine (hal _).mono ?_); rintro e wv ⟨rfl, hbv⟩))
        go_ret
        exact ⟨rfl, bel2 hbU8 hbv⟩

set_option maxRecDepth 100000 in
theorem lifted (os : Os) (started : os.Started) (H : Type) (enc : TypeId × Value → H) :
    ReturnsInHanded {} Try.checked os 6 .any (Rows.wireEndsSpec.pre6 enc Try.prog Try.f6 Rows.wireEndsRow.domain false) (Rows.wireEndsSpec.post enc Try.prog Try.f6 false true false false) := by
  refine returnsInHanded_of_change (C := Try.checked) own started (by kernel_rfl) Try.func6
    (ChangeSpec.witness6 (enc := enc) (C := Try.checked) false ⟨#[], #[.agg #[.int .i64 0, .int .i64 0, .int .i64 0, .int .u32 0, .int .u32 0, .int .u32 0, .int .u32 0, .slice none 0 0], .int .i64 0, .int .i64 0, .slice none 0 0], []⟩ 8 (by kernel_rfl) (by kernel_rfl) (by kernel_rfl) (by kernel_rfl)) ?_
  intro W base args ds gs before hval0 hW hcnd _
  have hval : ∀ (j : Nat) t v, Try.f6.params[j]? = some t → args[j]? = some v → Value.okWide Try.prog W .any base t v := hval0
  have hW' := hW
  obtain ⟨p, q, hA0, hV, rfl, hfz, hnd⟩ := hW
  have hA : DataW.TrodAll enc Try.prog W 0 (fun _ => true) true Try.f6.params.toList args.toList ds p := hA0
  rw [Try.params6] at hA hval
  obtain ⟨v0, vs0, d0, ds0, p0, q0, hargs, rfl, rfl, h0, r0⟩ := trodAll_cons hA
  obtain ⟨v1, vs1, d1, ds1, p1, q1, rfl, rfl, rfl, h1, r1⟩ := trodAll_cons r0
  obtain ⟨v2, vs2, d2, ds2, p2, q2, rfl, rfl, rfl, h2, r2⟩ := trodAll_cons r1
  obtain ⟨v3, vs3, d3, ds3, p3, q3, rfl, rfl, rfl, h3, r3⟩ := trodAll_cons r2
  obtain ⟨rfl, rfl, rfl⟩ := trodAll_nil r3
  obtain rfl : args = #[v0, v1, v2, v3] := by cases args; simp_all
  obtain ⟨rfl, rfl⟩ := trodVars_none hV
  have kk0 := h0
  have lt0 : ∀ x ∈ p0, x.block < W.heap.size := by obtain ⟨m, hm⟩ := kk0; exact DataW.trod_lt m _ _ _ hm
  obtain ⟨k0, f0, g0, N0, ad0, cap0, l0, rfl, hN0, wk0, wf0, wr0, w0, hc0, hq0⟩ := open_note (hval 0 27 v0 rfl rfl) h0
  obtain ⟨a1, rfl, rfl, rfl, w1⟩ := open_int Try.underlying3 (hval 1 3 v1 rfl rfl) h1
  obtain ⟨a2, rfl, rfl, rfl, w2⟩ := open_int Try.underlying3 (hval 2 3 v2 rfl rfl) h2
  have k3 := h3
  have lt3 : ∀ x ∈ p3, x.block < W.heap.size := by obtain ⟨m, hm⟩ := k3; exact DataW.trod_lt m _ _ _ hm
  obtain ⟨ad3, cap3, l3, rfl, w3, hb3, hc3, hm3⟩ := open_bytes (hval 3 30 v3 rfl rfl) h3
  clear hA0 hval0
  refine (walk W k0 f0 g0 N0 ad0 cap0 l0 hN0 wk0 wf0 wr0 w0 hc0 hq0 a1 w1 a2 w2 ad3 cap3 l3 w3 hb3 hc3 hm3).mono fun e W' ⟨he, hg⟩ => ?_
  subst he
  exact ⟨_, rfl, _, _, _, [], _, [], hW', (trodAll_cons_mk (shut_bool Try.underlying4 _) trodAll_mk0), (trodAll_cons_mk (Below.trod laidOut (by kernel_rfl) (of_decide_eq_true (by kernel_rfl)) kk0 hg lt0) (trodAll_cons_mk (shut_int Try.underlying3 w1) (trodAll_cons_mk (shut_int Try.underlying3 w2) (trodAll_cons_mk (Below.trod laidOut (by kernel_rfl) (of_decide_eq_true (by kernel_rfl)) k3 hg lt3) trodAll_mk0)))), rfl, hg.frame _, fun h => by cases h⟩

theorem over : Rows.wireEndsRow.holds Try.pinned (OpenSpec.ofChange Rows.wireEndsSpec) :=
  OpenClaim.holds_of_wide 6 Try.f6 rfl rfl rfl rfl rfl rfl rfl ⟨rfl, rfl, rfl, rfl, rfl⟩ rfl rfl rfl rfl rfl (by kernel_rfl) Try.func6 (by kernel_rfl)
    (of_decide_eq_true (by kernel_rfl)) (by unfold Func.isWrapper; first | (rw [if_pos (by decide +kernel)]; kernel_rfl) | (rw [if_neg (by decide +kernel)]; exact ⟨rfl, rfl⟩))
    (fun os started H enc _ => lifted os started H enc)

theorem proved : Rows.WireEndsSaid :=
  over
#print axioms proved
end Go.Proofs.Ytligjdmbjkppkaa
