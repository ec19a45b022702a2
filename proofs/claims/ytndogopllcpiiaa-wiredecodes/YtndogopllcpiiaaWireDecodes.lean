/- WireDecodes: at all bytes and every number of nodes: Decode is the document's, the same note or the same error, and the bytes stay; no condition. -/
import Derived.Test.YtndogopllcpiiaaRows
import Derived.WalkKit
import Derived.ProofKit
import Derived.OpenShut
import Derived.Test.YtndogopllcpiiaaWso
import Derived.Test.YtndogopllcpiiaaWry
import Derived.Test.YtndogopllcpiiaaOpb
namespace Go.Proofs.Ytndogopllcpiiaa
open Go.ChangeShapes Go.WideShapes Go.ChangeAt Go.RowKit
set_option linter.unusedVariables false

theorem laidOut : laidOutB Try.prog = true := by kernel_rfl
theorem own : ownKnob Try.prog.godebug = none := by kernel_rfl
open Go.Shelf Go.Lib
set_option maxHeartbeats 8000000 in
set_option maxRecDepth 100000 in
theorem walk (w : World) (ad0 : Option Addr) (cap0 : Nat) (l0 : List Nat) (w0 : RdB w ad0 l0) (hb0 : Byt l0) (hc0 : l0.length ≤ cap0) (hm0 : cap0 ≤ maxLen) (a1 : Int) (w1 : (Lit.int .i64 a1).wf = true) :
    Calls Try.prog 6 #[.slice ad0 l0.length cap0, .int .i64 a1] w fun e w' => e = .returned (.bool true) ∧ Below w.heap.size w w' := by
  have hal := alive_any
  by_cases h5 : 5000 < l0.length
  · have h5i : (5000 : Int) < (l0.length : Int) := by omega
    go_enter Try.func6, Try.ntmps6
    go_wp2_with (go_at_call 8; (with_reducible refine (hal _).mono ?_); rintro e wv ⟨rfl, hbv⟩)
    go_ret
    exact ⟨rfl, hbv⟩
  have h5i : ¬ (5000 : Int) < (l0.length : Int) := by omega
  have hle := lentB_any ad0 cap0 l0 w w0 (by omega)
  have hst : ∀ (W : World) (g c : Nat), g < W.heap.size → BAt W g 0 (mk9 l0) → l0.length + 9 ≤ c → RdB W ad0 l0 → Calls Try.prog 25 #[.slice (some ⟨g, 0, none⟩) l0.length c, .slice ad0 l0.length cap0] W fun e w' => e = .returned (.bool true) ∧ Below W.heap.size W w' := fun W g c h1 h2 h3 h4 => staysB_any g ad0 c cap0 l0 W h1 h2 h3 h4 (by omega)
  have hde0 : ∀ (W : World) (g : Nat), g < W.heap.size → BAt W g 0 (mk9 l0) → Calls Try.prog 23 #[.slice (some ⟨g, 0, none⟩) l0.length (l0.length + 9), .int .i64 a1] W (DcO a1 l0 W) := fun W g h1 h2 => decode_any (some ⟨g, 0, none⟩) (l0.length + 9) l0 a1 W (fun _ => ⟨g, 0, rfl, h1, fun k x hx => h2 k x (mk9_old hx)⟩) hb0 (by omega)
  have hrd0 : ∀ (W : World), RdB W ad0 l0 → Calls Try.prog 24 #[.slice ad0 l0.length cap0, .int .i64 a1] W (RdO a1 l0 W) := fun W h => rdecode_any ad0 cap0 l0 a1 W h hb0 hc0
  unfold DcO at hde0
  unfold RdO at hrd0
  have ny := nil_yes
  have h9 : l0.length + 9 ≤ l0.length + 9 := Nat.le_refl _
  cases hd : dec a1 l0 with
  | error er =>
    rw [hd] at hde0 hrd0
    have her : (er != 0) = true := by simpa using dec_err hd
    have hna := as_nil
    unfold rnv at hrd0 hna
    dsimp only at hde0 hrd0
    clear hd
    go_enter Try.func6, Try.ntmps6
    go_wp2_with (first | (go_at_call 22; (with_reducible refine hle.mono ?_); rintro e u1 ⟨rfl, hg1, hat1, hb1⟩) | (go_at_call 23; (with_reducible refine (hde0 _ _ hg1 hat1).mono ?_); rintro e u2 ⟨rfl, hb2⟩; have hg2 := Nat.lt_of_lt_of_le hg1 hb2.size; have hat2 := hat1.carry (hb2.block _ hg1); have hb12 := bel2 hb1 hb2; have hr2 := w0.carry hb12) | (go_at_call 24; (with_reducible refine (hrd0 _ hr2).mono ?_); rintro e u3 ⟨rfl, hb3⟩; have hb3z := bel2 hb3 (al1' u3 (.cells #[.int .i64 0, .int .i64 0, .int .i64 0, .int .u32 (wd 0 0 : Nat), .int .u32 (wd 0 1 : Nat), .int .u32 (wd 0 2 : Nat), .int .u32 (wd 0 3 : Nat), .slice none 0 0] 41)); have hbU3 := bel2 hb12 hb3z; have hg3 := Nat.lt_of_lt_of_le hg2 hb3z.size; have hat3 := hat2.carry (hb3z.block _ hg2); have hr3 := hr2.carry hb3z) | (go_at_call 25; (with_reducible refine (hst _ _ _ hg3 hat3 h9 hr3).mono ?_); rintro e u4 ⟨rfl, hb4⟩; have hbU4 := bel2 hbU3 hb4) | (go_at_call 17; (with_reducible refine (hna _).mono ?_); rintro e u5 ⟨rfl, hb5⟩; have hbU5 := bel2 hbU4 (bel2 hb5 (al1' u5 (.cells #[.int .i64 0, .int .i64 0, .int .i64 0, .int .u32 (wd 0 0 : Nat), .int .u32 (wd 0 1 : Nat), .int .u32 (wd 0 2 : Nat), .int .u32 (wd 0 3 : Nat), .slice none 0 0] 41)))) | (go_at_call 8; (with_reducible refine (hal _).mono ?_); rintro e wv ⟨rfl, hbv⟩))
    go_ret
    exact ⟨rfl, bel2 hbU5 hbv⟩
  | ok q =>
    obtain ⟨kd, fr, rd, N, l⟩ := q
    obtain ⟨kd', fr', rd', N', l', he, hk, hf, hr3, hN2, hN, hbs⟩ := dec_inv hb0 hd
    cases he
    have hll : l.length ≤ 1024 := by
      obtain ⟨h1, _, _, _, hri⟩ := flt_0 hf
      have := ris_len a1.toNat l (-1) (by omega) (by omega) (by rw [show ((a1.toNat : Nat) : Int) = a1 by omega]; exact hri)
      omega
    rw [hd] at hde0 hrd0
    have has : ∀ (W : World) (a : Option Addr) (c : Nat), Calls Try.prog 17 #[noteV kd fr rd N (.slice a l.length c)] W fun e w' => e = .returned (.tuple #[rnv kd fr rd N (.slice a l.length c), .bool true]) ∧ Below W.heap.size W w' := fun W a c => as_any kd hk fr rd N (fun e => by simp [hr3 e]) hN2 a l.length c W
    have hsn : ∀ (W : World) (a a' : Option Addr) (c c' : Nat), RdN W a l → RdN W a' l → Calls Try.prog 18 #[rnv kd fr rd N (.slice a l.length c), rnv kd fr rd N (.slice a' l.length c')] W fun e w' => e = .returned (.bool true) ∧ Below W.heap.size W w' := fun W a a' c c' h1 h2 => samen_any kd fr rd N hN a a' c c' l W h1 h2 (by omega)
    have hde : ∀ (W : World) (g : Nat), g < W.heap.size → BAt W g 0 (mk9 l0) → Calls Try.prog 23 #[.slice (some ⟨g, 0, none⟩) l0.length (l0.length + 9), .int .i64 a1] W fun e w' => ∃ a c t x, e = .returned (.tuple #[.iface t x, .int .i64 0]) ∧ Hid (noteV kd fr rd N (.slice a l.length c) = .iface t x) ∧ RdN w' a l ∧ Below W.heap.size W w' := fun W g h1 h2 => (hde0 W g h1 h2).mono (by
      rintro e w' ⟨a, c, rfl, q2, q3⟩
      obtain ⟨t, x, hx⟩ := noteV_form kd fr rd N (.slice a l.length c)
      exact ⟨a, c, t, x, by rw [hx], hx, RdN.own q2, q3⟩)
    have hrd : ∀ (W : World), RdB W ad0 l0 → Calls Try.prog 24 #[.slice ad0 l0.length cap0, .int .i64 a1] W fun e w' => ∃ a c, e = .returned (.tuple #[rnv kd fr rd N (.slice a l.length c), .int .i64 0]) ∧ RdN w' a l ∧ Below W.heap.size W w' := fun W h1 => (hrd0 W h1).mono (by
      rintro e w' ⟨a, c, q1, q2, q3⟩
      exact ⟨a, c, q1, RdN.own q2, q3⟩)
    have hasI : ∀ (W : World) (a : Option Addr) (c : Nat) (t : TypeId) (x : Value), noteV kd fr rd N (.slice a l.length c) = .iface t x → Calls Try.prog 17 #[.iface t x] W fun e w' => e = .returned (.tuple #[rnv kd fr rd N (.slice a l.length c), .bool true]) ∧ Below W.heap.size W w' := fun W a c t x hx => hx ▸ has W a c
    unfold rnv at hrd hasI hsn
    clear hde0 hrd0 hbs hd hf hr3 hN2 hN hk has
    go_enter Try.func6, Try.ntmps6
    go_wp2_with (first | (go_at_call 22; (with_reducible refine hle.mono ?_); rintro e u1 ⟨rfl, hg1, hat1, hb1⟩) | (go_at_call 23; (with_reducible refine (hde _ _ hg1 hat1).mono ?_); rintro e u2 ⟨a, c, tI, xI, rfl, HI, hra2, hb2⟩; have hg2 := Nat.lt_of_lt_of_le hg1 hb2.size; have hat2 := hat1.carry (hb2.block _ hg1); have hb12 := bel2 hb1 hb2; have hr2 := w0.carry hb12) | (go_at_call 24; (with_reducible refine (hrd _ hr2).mono ?_); rintro e u3 ⟨a2, c2, rfl, hrb3, hb3⟩; have hbz := al1' u3 (.cells #[.int .i64 (kd : Int), .int .i64 (fr : Int), .int .i64 (rd : Int), .int .u32 (wd N 0 : Nat), .int .u32 (wd N 1 : Nat), .int .u32 (wd N 2 : Nat), .int .u32 (wd N 3 : Nat), .slice a2 l.length c2] 41); have hb3z := bel2 hb3 hbz; have hbU3 := bel2 hb12 hb3z; have hg3 := Nat.lt_of_lt_of_le hg2 hb3z.size; have hat3 := hat2.carry (hb3z.block _ hg2); have hr3 := hr2.carry hb3z; have hra3 := hra2.carry hb3z; have hrb3z := hrb3.carry hbz; have hX3 : RB (u3.alloc (.cells #[.int .i64 (kd : Int), .int .i64 (fr : Int), .int .i64 (rd : Int), .int .u32 (wd N 0 : Nat), .int .u32 (wd N 1 : Nat), .int .u32 (wd N 2 : Nat), .int .u32 (wd N 3 : Nat), .slice a2 l.length c2] 41)) u3.heap.size kd fr rd N (.slice a2 l.length c2) := new_at rfl) | (go_at_call 25; (with_reducible refine (hst _ _ _ hg3 hat3 h9 hr3).mono ?_); rintro e u4 ⟨rfl, hb4⟩; have hbU4 := bel2 hbU3 hb4; have hra4 := hra3.carry hb4; have hrb4 := hrb3z.carry hb4; have hX4 := hX3.below hb4) | (go_at_call 17; (with_reducible refine (hasI _ _ _ _ _ HI.out).mono ?_); rintro e u5 ⟨rfl, hb5⟩; have hbz5 := bel2 hb5 (al1' u5 (.cells #[.int .i64 (kd : Int), .int .i64 (fr : Int), .int .i64 (rd : Int), .int .u32 (wd N 0 : Nat), .int .u32 (wd N 1 : Nat), .int .u32 (wd N 2 : Nat), .int .u32 (wd N 3 : Nat), .slice a l.length c] 41)); have hbU5 := bel2 hbU4 hbz5; have hra5 := hra4.carry hbz5; have hrb5 := hrb4.carry hbz5; have hX5 := hX4.below hbz5; have hZ5 : RB (u5.alloc (.cells #[.int .i64 (kd : Int), .int .i64 (fr : Int), .int .i64 (rd : Int), .int .u32 (wd N 0 : Nat), .int .u32 (wd N 1 : Nat), .int .u32 (wd N 2 : Nat), .int .u32 (wd N 3 : Nat), .slice a l.length c] 41)) u5.heap.size kd fr rd N (.slice a l.length c) := new_at rfl) | (go_at_call 8; (with_reducible refine (hal _).mono ?_); rintro e wv ⟨rfl, hbv⟩; have hbU6 := bel2 hbU5 hbv; have hra6 := hra5.carry hbv; have hrb6 := hrb5.carry hbv; obtain ⟨d0, d1, d2, d3, d4, d5, d6, d7⟩ := (hX5.below hbv).cells; obtain ⟨g0, g1, g2, g3, g4, g5, g6, g7⟩ := (hZ5.below hbv).cells) | (go_at_call 18; (with_reducible refine (hsn _ _ _ _ _ hra6 hrb6).mono ?_); rintro e u8 ⟨rfl, hb8⟩))
    go_ret
    exact ⟨rfl, bel2 hbU6 hb8⟩

set_option maxRecDepth 100000 in
theorem lifted (os : Os) (started : os.Started) (H : Type) (enc : TypeId × Value → H) :
    ReturnsInHanded {} Try.checked os 6 .any (Rows.wireDecodesSpec.pre6 enc Try.prog Try.f6 Rows.wireDecodesRow.domain false) (Rows.wireDecodesSpec.post enc Try.prog Try.f6 false true false false) := by
  refine returnsInHanded_of_change (C := Try.checked) own started (by kernel_rfl) Try.func6
    (ChangeSpec.witness6 (enc := enc) (C := Try.checked) false ⟨#[], #[.slice none 0 0, .int .i64 0], []⟩ 8 (by kernel_rfl) (by kernel_rfl) (by kernel_rfl) (by kernel_rfl)) ?_
  intro W base args ds gs before hval0 hW hcnd _
  have hval : ∀ (j : Nat) t v, Try.f6.params[j]? = some t → args[j]? = some v → Value.okWide Try.prog W .any base t v := hval0
  have hW' := hW
  obtain ⟨p, q, hA0, hV, rfl, hfz, hnd⟩ := hW
  have hA : DataW.TrodAll enc Try.prog W 0 (fun _ => true) true Try.f6.params.toList args.toList ds p := hA0
  rw [Try.params6] at hA hval
  obtain ⟨v0, vs0, d0, ds0, p0, q0, hargs, rfl, rfl, h0, r0⟩ := trodAll_cons hA
  obtain ⟨v1, vs1, d1, ds1, p1, q1, rfl, rfl, rfl, h1, r1⟩ := trodAll_cons r0
  obtain ⟨rfl, rfl, rfl⟩ := trodAll_nil r1
  obtain rfl : args = #[v0, v1] := by cases args; simp_all
  obtain ⟨rfl, rfl⟩ := trodVars_none hV
  have k0 := h0
  have lt0 : ∀ x ∈ p0, x.block < W.heap.size := by obtain ⟨m, hm⟩ := k0; exact DataW.trod_lt m _ _ _ hm
  obtain ⟨ad0, cap0, l0, rfl, w0, hb0, hc0, hm0⟩ := open_bytes (hval 0 22 v0 rfl rfl) h0
  obtain ⟨a1, rfl, rfl, rfl, w1⟩ := open_int Try.underlying3 (hval 1 3 v1 rfl rfl) h1
  clear hA0 hval0
  refine (walk W ad0 cap0 l0 w0 hb0 hc0 hm0 a1 w1).mono fun e W' ⟨he, hg⟩ => ?_
  subst he
  exact ⟨_, rfl, _, _, _, [], _, [], hW', (trodAll_cons_mk (shut_bool Try.underlying4 _) trodAll_mk0), (trodAll_cons_mk (Below.trod laidOut (by kernel_rfl) (of_decide_eq_true (by kernel_rfl)) k0 hg lt0) (trodAll_cons_mk (shut_int Try.underlying3 w1) trodAll_mk0)), rfl, hg.frame _, fun h => by cases h⟩

theorem over : Rows.wireDecodesRow.holds Try.pinned (OpenSpec.ofChange Rows.wireDecodesSpec) :=
  OpenClaim.holds_of_wide 6 Try.f6 rfl rfl rfl rfl rfl rfl rfl ⟨rfl, rfl, rfl, rfl, rfl⟩ rfl rfl rfl rfl rfl (by kernel_rfl) Try.func6 (by kernel_rfl)
    (of_decide_eq_true (by kernel_rfl)) (by unfold Func.isWrapper; first | (rw [if_pos (by decide +kernel)]; kernel_rfl) | (rw [if_neg (by decide +kernel)]; exact ⟨rfl, rfl⟩))
    (fun os started H enc _ => lifted os started H enc)

theorem proved : Rows.WireDecodesSaid :=
  over
#print axioms proved
end Go.Proofs.Ytndogopllcpiiaa
