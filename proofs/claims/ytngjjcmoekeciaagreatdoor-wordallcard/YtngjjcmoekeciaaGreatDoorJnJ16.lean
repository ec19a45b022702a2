/- The document's Scan: what it answers. -/
import Derived.Test.YtngjjcmoekeciaaGreatDoorJnJ12
import Derived.Test.YtngjjcmoekeciaaGreatDoorVla
import Derived.Test.YtngjjcmoekeciaaGreatDoorSlg
namespace Go.Proofs.YtngjjcmoekeciaaGreatDoor
open Go.RowKit Go.Shelf

theorem infoTs : (Tryz.prog.info? 50).map (fun i => (i.zero, i.size, i.bytes)) = some (some (.agg #[.int .i64 0, .string ByteArray.empty, .int .i64 0, .int .i64 0]), 4, 40) := by kernel_rfl
theorem new_src {W : World} (cs : Array Value) (t : TypeId) : ∀ j u, cs.toList[j]? = some u → (W.alloc (.cells cs t)).cell? ((⟨W.heap.size, 0, none⟩ : Addr).add j) = some u := by
  intro j u h
  have hg : (W.alloc (.cells cs t)).heap[W.heap.size]? = some (.cells cs t) := new_at rfl
  rw [add_pl, Nat.zero_add, cell_at hg j, ← h]
  simp
theorem row_slice {w : World} {base size : Nat} {e : TypeId} {v : Value} {n : Nat} {xs : List Value} (h : w.ownsRow base e size v n xs) : ∃ ad cap, v = .slice ad n cap := by
  rcases own_form h with ⟨e1, e2⟩ | ⟨g, cap, e1, _⟩
  · exact ⟨none, 0, by rw [e1, e2]⟩
  · exact ⟨_, cap, e1⟩
/-- What Scan answers, and where it lies. -/
def ScO (w : World) (R : Res) (e : Ending) (w' : World) : Prop := Below w.heap.size w w' ∧ match R with
  | .inl l => ∃ ad cap, e = .returned (.tuple #[.slice ad l.length cap, .int .i64 0, .int .i64 0, .int .i64 0]) ∧ w'.ownsRow w.heap.size 50 4 (.slice ad l.length cap) l.length (cells4 l)
  | .inr (er, a, b) => e = .returned (.tuple #[.slice none 0 0, .int .i64 (er : Int), .int .i64 (a : Int), .int .i64 (b : Int)])
/-- While the text is gone through. -/
structure SL (w : World) (tk : List Fou) (r : Value) (V : World) : Prop where
  row : V.ownsRow w.heap.size 50 4 r tk.length (cells4 tk)
  bl : Below w.heap.size w V
theorem SL.carry {w V V' : World} {tk : List Fou} {r : Value} (h : SL w tk r V) (hb : Below V.heap.size V V') : SL w tk r V' := ⟨row_below h.row hb, bel2 h.bl hb⟩
theorem SL.more {w V V' : World} {tk : List Fou} {r r' : Value} (h : SL w tk r V) (q : Fou) (hg : V.grownBy V' r.ownBlock) (hr : V'.ownsRow w.heap.size 50 4 r' (tk.length + 1) (cells4 tk ++ [.int .i64 q.1, .string q.2.1, .int .i64 q.2.2.1, .int .i64 q.2.2.2])) : SL w (tk ++ [q]) r' V' := by
  refine ⟨?_, h.bl.grown hg h.bl.size (fun b e => (row_lt2 h.row b e).1)⟩
  rw [List.length_append, cells4_append]
  exact hr
theorem bel_drewN {n : Nat} {w a : World} (h : Below n w a) (k : Nat) : Below n w (a.drewN k) := h.trans ⟨rfl, rfl, rfl, Nat.le_refl _, fun _ _ => rfl⟩
theorem results_tmp4 {fn : Func} {t u v x : Tmp} (h : fn.results = #[.tmp t, .tmp u, .tmp v, .tmp x]) (tmps : Array Value) (P : Program) (w : World) : (results fn tmps).run P w = .ok (.tuple #[tmps.getD t undef, tmps.getD u undef, tmps.getD v undef, tmps.getD x undef]) w := by
  simp [results, h]
theorem stepG_struct4 {G : Type} {P : Program} {md : Region.Mode} {ops : Array Oper} {Q : Exit → Act → World → Prop} {X0 : Array Value} {val : G → Nat → Value} {J : G → (Nat → Bool) → World → Prop} {i : Nat} {o : Oper}
    (hi : ops[i]? = some o) (hg : o.guard = none) (t : TypeId) (x0 x1 x2 x3 : Operand) (v0 v1 v2 v3 : G → Value) (ho : o.op = .build t #[(0, x0), (1, x1), (2, x2), (3, x3)]) (hx : ∀ g, rdo md ops X0 (val g) i o x0 = some (v0 g) ∧ rdo md ops X0 (val g) i o x1 = some (v1 g) ∧ rdo md ops X0 (val g) i o x2 = some (v2 g) ∧ rdo md ops X0 (val g) i o x3 = some (v3 g))
    (h : ∀ g d w, J g d w → d i = false → (Instr.build t #[(0, v0 g), (1, v1 g), (2, v2 g), (3, v3 g)]).run P w = .ok (val g i) w ∧ J g (fun j => if j = i then true else d j) w) : StepG P md ops Q X0 val J i o := by
  intro g d a w hJ hun hdep hcl hS
  have hS' : Seen md ops X0 (val g) i o a := hS
  obtain ⟨h1, h3⟩ := h g d w hJ hun
  obtain ⟨q0, q1, q2, q3⟩ := hx g
  unfold wpOp
  rw [hi]
  simp only [Region.wanted, hg, if_true]
  refine .inl ?_
  unfold Oper.wp execOp
  simp only [ho, List.map_toArray, List.map_cons, List.map_nil, hS'.eval q0, hS'.eval q1, hS'.eval q2, hS'.eval q3, Sem.run_bind, h1, Result.andThen_ok, Sem.run_pure, Oper.upon_value]
  exact ⟨g, fun _ _ => rfl, rfl, h3⟩
theorem slice_lhS {s : ByteArray} {a b : Nat} (h : a ≤ b) (hb : b ≤ s.size) (w : World) : (Instr.sliceAt 9 (.string s) (some (.int .i64 (a : Int))) (some (.int .i64 (b : Int))) none).run Tryz.prog w = .ok (.string (s.extract a b)) w := by
  have h1 : (a : Int) ≤ (b : Int) := by omega
  have h2 : (b : Int) ≤ (s.size : Int) := by omega
  go_simp
theorem build_q (k : Int) (t : ByteArray) (l c : Int) (W : World) : (Instr.build 50 #[(0, .int .i64 k), (1, .string t), (2, .int .i64 l), (3, .int .i64 c)]).run Tryz.prog W = .ok (.agg #[.int .i64 k, .string t, .int .i64 l, .int .i64 c]) W := by go_simp
theorem bs_q (k : Int) (t : ByteArray) (l c : Int) (W : World) : (Instr.buildSlice 39 1 #[(0, .agg #[.int .i64 k, .string t, .int .i64 l, .int .i64 c])]).run Tryz.prog W = .ok (.slice (some ⟨W.heap.size, 0, none⟩) 1 1) (W.alloc (.cells #[.int .i64 k, .string t, .int .i64 l, .int .i64 c] 50)) := by go_simp
/-- While a word is put behind the others. -/
def JW (w : World) (tk : List Fou) (ar : Option Addr) (N cr : Nat) (x : Fou) (g : Nat × Option Addr × Nat) (d14 d15 : Bool) (W : World) : Prop :=
  match d14, d15 with
  | false, _ => SL w tk (.slice ar N cr) W
  | true, false => SL w tk (.slice ar N cr) W ∧ W.heap[g.1]? = some (.cells #[.int .i64 x.1, .string x.2.1, .int .i64 x.2.2.1, .int .i64 x.2.2.2] 50 (0, 0))
  | true, true => SL w (tk ++ [x]) (.slice g.2.1 (N + 1) g.2.2) W
theorem JW.carry {w : World} {tk : List Fou} {ar : Option Addr} {N cr : Nat} {x : Fou} {g : Nat × Option Addr × Nat} {d14 d15 : Bool} {W W' : World} (h : JW w tk ar N cr x g d14 d15 W) (hb : Below W.heap.size W W') : JW w tk ar N cr x g d14 d15 W' := by
  match d14, d15, h with
  | false, _, h => exact SL.carry h hb
  | true, false, h => exact ⟨h.1.carry hb, (hb.block _ (lt_at h.2)).trans h.2⟩
  | true, true, h => exact SL.carry h hb
set_option maxHeartbeats 8000000 in
set_option maxRecDepth 100000 in
theorem rScan_any (s : ByteArray) (hs : s.size ≤ 65536) (w : World) : Calls Tryz.prog 6 #[.string s] w (ScO w (scD s (s.size + 2) 0 1 0 false [])) := by
  have hmx : Tryz.prog.follows .mixedOrders = true := by kernel_rfl
  obtain ⟨ic, hic, hz0, hz1, hz2⟩ := info_parts infoTs
  have hsi : ¬ (s.size : Int) > 65536 := by omega
  obtain ⟨R, hR⟩ : ∃ R, scD s (s.size + 2) 0 1 0 false [] = R := ⟨_, rfl⟩
  rw [hR]
  have HR : Hid (scD s (s.size + 2) 0 1 0 false [] = R) := hR
  clear hR
  go_enter Tryz.func6, Tryz.ntmps6
  go_wp2
  go_loopw [6, 7, 8, 9, 10] (fun r vl vf vs vi wz => ∃ (f i ln fr : Nat) (so : Bool) (tk : List Fou), vl = .int .i64 (ln : Int) ∧ vf = .int .i64 (fr : Int) ∧ vs = .bool so ∧ vi = .int .i64 (i : Int) ∧ i ≤ s.size + 1 ∧ fr ≤ i ∧ ln ≤ i + 1 ∧ tk.length ≤ i ∧ s.size + 1 < i + f ∧ Hid (scD s f i ln fr so tk = R) ∧ Hid (SL w tk r wz)) (fun _ _ _ _ vi _ => s.size + 1 - vnatD vi)
  case atStart => exact ⟨s.size + 2, 0, 1, 0, false, [], rfl, rfl, rfl, rfl, Nat.zero_le _, Nat.le_refl _, Nat.le_refl _, Nat.le_refl _, by omega, HR, ⟨World.ownsRow_nil _ _ _ _, Below.refl _ _⟩⟩
  case round =>
    obtain ⟨f, ip, ln, fr, so, tk, rfl, rfl, rfl, rfl, hi, hfr, hln, htk, hf, HS, HL⟩ := hrel
    obtain ⟨f, rfl⟩ : ∃ g, f = g + 1 := ⟨f - 1, by omega⟩
    clear HR
    obtain ⟨ar, cr, er⟩ := row_slice HL.out.row
    subst er
    obtain ⟨N, hN⟩ : ∃ N, tk.length = N := ⟨_, rfl⟩
    have HN : Hid (tk.length = N) := hN
    rw [hN] at HL htk ⊢
    clear hN
    have hbz := HL.out.bl.size
    by_cases hin : ip < s.size
    case neg =>
      by_cases hie : s.size < ip
      · have hle : ¬ ((ip : Int) ≤ (s.size : Int)) := by omega
        have hR := sc_end s f ip ln fr so tk hie
        have HV : Hid (R = .inl tk) := HS.out.symm.trans hR
        clear HS hR
        go_wp2
        (try simp only [Exit.inBlock, Exit.then])
        refine bodyPost_ret (results_tmp4 rfl _ _ _) rfl ?_
        rw [HV.out]
        refine ⟨HL.out.bl, ar, cr, ?_, ?_⟩
        · rw [HN.out]
          rfl
        · have := HL.out.row
          rw [HN.out] at this ⊢
          exact this
      · obtain rfl : ip = s.size := by omega
        have hE : s.size = s.size ∨ byt s s.size = 10 := .inl rfl
        cases so with
        | false =>
          have hR := sc_eol s f s.size ln fr false tk (by omega) hE
          rw [if_neg (by simp)] at hR
          have HV : Hid (scD s f (s.size + 1) (ln + 1) (s.size + 1) false tk = R) := hR.symm.trans HS.out
          clear HS hR hE
          go_wp2
          go_roundw
          case rel => exact ⟨f, s.size + 1, ln + 1, s.size + 1, false, tk, by simp, by simp, rfl, by simp, by omega, by omega, by omega, by rw [HN.out]; omega, by omega, HV, HL⟩
          case measure => simp [vnatD] <;> omega
        | true =>
          have hR := sc_eol s f s.size ln fr true tk (by omega) hE
          rw [if_pos rfl] at hR
          have hct := refCount_any (s.extract fr s.size) (by simp; omega)
          have hcb := starts_length (s.extract fr s.size)
          have hce : (s.extract fr s.size).size ≤ 65536 := by simp; omega
          unfold cnt at hR
          generalize (starts (s.extract fr s.size)).length = C at *
          have HV : Hid (scD s f (s.size + 1) (ln + 1) (s.size + 1) false (tk ++ [(1, ⟨#[10]⟩, (ln : Int), ((C + 1 : Nat) : Int))]) = R) := hR.symm.trans HS.out
          have hfi : (fr : Int) ≤ (s.size : Int) := by omega
          clear HS hR hE
          go_wp2_with (first | (go_at_call 19; (with_reducible refine (hct _).mono ?_); rintro e u1 ⟨rfl, hb1⟩; have HL1 : Hid (SL w tk (.slice ar N cr) u1) := HL.out.carry hb1; have hrow1 : u1.ownsRow w.heap.size 50 4 (.slice ar N cr) N (cells4 tk) := (by have := HL1.out.row; rw [HN.out] at this; exact this); have hbz1 := HL1.out.bl.size) | (at_builtin; refine wpList_append_own_at _ rfl _ _ 39 rfl w.heap.size 50 ic _ 4 40 Tryz.underlying39 hic hz0 hz1 hz2 rfl (by decide) _ N (cells4 tk) rfl (row_below hrow1 (al1' _ _)) ⟨u1.heap.size, 0, none⟩ 1 1 [.int .i64 1, .string ⟨#[10]⟩, .int .i64 (ln : Int), .int .i64 ((C : Int) + 1)] rfl rfl (new_src #[.int .i64 1, .string ⟨#[10]⟩, .int .i64 (ln : Int), .int .i64 ((C : Int) + 1)] 50) (by simp [Value.oneCell']) (by unfold maxLen; omega) (by omega) (Nat.le_trans hbz1 (al1' _ _).size) ?_; intro v2 u2 ho2 hg2 _ _; have HX : Hid (SL w (tk ++ [(1, ⟨#[10]⟩, (ln : Int), ((C + 1 : Nat) : Int))]) v2 u2) := (HL1.out.carry (al1' u1 (.cells #[.int .i64 1, .string ⟨#[10]⟩, .int .i64 (ln : Int), .int .i64 ((C : Int) + 1)] 50))).more (1, ⟨#[10]⟩, (ln : Int), ((C + 1 : Nat) : Int)) hg2 (by rw [HN.out]; exact ho2); clear ho2 hg2))
          go_roundw
          case rel => exact ⟨f, s.size + 1, ln + 1, s.size + 1, false, _, by simp, by simp, rfl, by simp, by omega, by omega, by omega, by rw [List.length_append, HN.out]; simp; omega, by omega, HV, HX⟩
          case measure => simp [vnatD] <;> omega
    case pos =>
      have hby := byt_get hin
      have hii : (ip : Int) < (s.size : Int) := by omega
      have hle : (ip : Int) ≤ (s.size : Int) := by omega
      have hne : ¬ ((ip : Int) = (s.size : Int)) := by omega
      have hwn : IntKind.i64.wrap ((ip : Int) + 1) = (ip : Int) + 1 := by rw [IntKind.wrap_i64]; omega
      by_cases h10 : byt s ip = 10
      · have hq : (s[ip]'hin).toNat = 10 := by omega
        have hE : ip = s.size ∨ byt s ip = 10 := .inr h10
        clear hby h10
        cases so with
        | false =>
          have hR := sc_eol s f ip ln fr false tk (by omega) hE
          rw [if_neg (by simp)] at hR
          have HV : Hid (scD s f (ip + 1) (ln + 1) (ip + 1) false tk = R) := hR.symm.trans HS.out
          clear HS hR hE
          go_wp2
          go_roundw
          case rel => exact ⟨f, ip + 1, ln + 1, ip + 1, false, tk, by simp, by simp, rfl, by simp, by omega, by omega, by omega, by rw [HN.out]; omega, by omega, HV, HL⟩
          case measure => simp [vnatD] <;> omega
        | true =>
          have hR := sc_eol s f ip ln fr true tk (by omega) hE
          rw [if_pos rfl] at hR
          have hct := refCount_any (s.extract fr ip) (by simp; omega)
          have hcb := starts_length (s.extract fr ip)
          have hce : (s.extract fr ip).size ≤ 65536 := by simp; omega
          unfold cnt at hR
          generalize (starts (s.extract fr ip)).length = C at *
          have HV : Hid (scD s f (ip + 1) (ln + 1) (ip + 1) false (tk ++ [(1, ⟨#[10]⟩, (ln : Int), ((C + 1 : Nat) : Int))]) = R) := hR.symm.trans HS.out
          have hfi : (fr : Int) ≤ (ip : Int) := by omega
          clear HS hR hE
          go_wp2_with (first | (go_at_call 19; (with_reducible refine (hct _).mono ?_); rintro e u1 ⟨rfl, hb1⟩; have HL1 : Hid (SL w tk (.slice ar N cr) u1) := HL.out.carry hb1; have hrow1 : u1.ownsRow w.heap.size 50 4 (.slice ar N cr) N (cells4 tk) := (by have := HL1.out.row; rw [HN.out] at this; exact this); have hbz1 := HL1.out.bl.size) | (at_builtin; refine wpList_append_own_at _ rfl _ _ 39 rfl w.heap.size 50 ic _ 4 40 Tryz.underlying39 hic hz0 hz1 hz2 rfl (by decide) _ N (cells4 tk) rfl (row_below hrow1 (al1' _ _)) ⟨u1.heap.size, 0, none⟩ 1 1 [.int .i64 1, .string ⟨#[10]⟩, .int .i64 (ln : Int), .int .i64 ((C : Int) + 1)] rfl rfl (new_src #[.int .i64 1, .string ⟨#[10]⟩, .int .i64 (ln : Int), .int .i64 ((C : Int) + 1)] 50) (by simp [Value.oneCell']) (by unfold maxLen; omega) (by omega) (Nat.le_trans hbz1 (al1' _ _).size) ?_; intro v2 u2 ho2 hg2 _ _; have HX : Hid (SL w (tk ++ [(1, ⟨#[10]⟩, (ln : Int), ((C + 1 : Nat) : Int))]) v2 u2) := (HL1.out.carry (al1' u1 (.cells #[.int .i64 1, .string ⟨#[10]⟩, .int .i64 (ln : Int), .int .i64 ((C : Int) + 1)] 50))).more (1, ⟨#[10]⟩, (ln : Int), ((C + 1 : Nat) : Int)) hg2 (by rw [HN.out]; exact ho2); clear ho2 hg2))
          go_roundw
          case rel => exact ⟨f, ip + 1, ln + 1, ip + 1, false, _, by simp, by simp, rfl, by simp, by omega, by omega, by omega, by rw [List.length_append, HN.out]; simp; omega, by omega, HV, HX⟩
          case measure => simp [vnatD] <;> omega
      have q10 : (((s[ip]'hin).toNat : Int) == 10) = false := beq_eq_false_iff_ne.2 (by omega)
      by_cases hg : byt s ip = 9 ∨ byt s ip = 13 ∨ byt s ip = 32
      · have hR := sc_gap s f ip ln fr so tk hin hg
        have HV : Hid (scD s f (ip + 1) ln fr so tk = R) := hR.symm.trans HS.out
        clear HS hR
        rcases hg with hg | hg | hg
        · have hq : (s[ip]'hin).toNat = 9 := by omega
          clear hby h10 hg q10
          go_wp2
          go_roundw
          case rel => exact ⟨f, ip + 1, ln, fr, so, tk, rfl, rfl, rfl, by simp, by omega, by omega, by omega, by rw [HN.out]; omega, by omega, HV, HL⟩
          case measure => simp [vnatD] <;> omega
        · have hq : (s[ip]'hin).toNat = 13 := by omega
          clear hby h10 hg q10
          go_wp2
          go_roundw
          case rel => exact ⟨f, ip + 1, ln, fr, so, tk, rfl, rfl, rfl, by simp, by omega, by omega, by omega, by rw [HN.out]; omega, by omega, HV, HL⟩
          case measure => simp [vnatD] <;> omega
        · have hq : (s[ip]'hin).toNat = 32 := by omega
          clear hby h10 hg q10
          go_wp2
          go_roundw
          case rel => exact ⟨f, ip + 1, ln, fr, so, tk, rfl, rfl, rfl, by simp, by omega, by omega, by omega, by rw [HN.out]; omega, by omega, HV, HL⟩
          case measure => simp [vnatD] <;> omega
      by_cases h35 : byt s ip = 35
      · have hR := sc_rem s f ip ln fr so tk hin h35
        have hq : (s[ip]'hin).toNat = 35 := by omega
        have HLE : Hid (LEnd s ip (LE s ip)) := le_end s ip (by omega)
        have hEi : ip < LE s ip := by
          have h := HLE.out
          rcases Nat.lt_or_ge ip (LE s ip) with q | q
          · exact q
          · have e : LE s ip = ip := by have := h.1; omega
            rcases h.2.2.2 with q2 | q2
            · omega
            · rw [e] at q2; omega
        have hEs : LE s ip ≤ s.size := HLE.out.2.1
        have HV : Hid (scD s f (LE s ip) ln fr so tk = R) := hR.symm.trans HS.out
        clear HS hR
        generalize LE s ip = E at *
        clear hby h10 hg q10 h35
        go_wp2
        go_loopw [10] (fun vi wz => ∃ (j : Nat), vi = .int .i64 (j : Int) ∧ ip ≤ j ∧ j ≤ E ∧ Hid (SL w tk (.slice ar N cr) wz)) (fun vi _ => s.size - vnatD vi)
        case atStart => exact ⟨ip, rfl, Nat.le_refl _, by omega, HL⟩
        case round =>
          obtain ⟨j, rfl, hij, hjE, HL2⟩ := hrel
          by_cases hjl : j < E
          · have hjs : j < s.size := by omega
            have hji : (j : Int) < (s.size : Int) := by omega
            have hb := HLE.out.2.2.1 j hij hjl
            have hby2 := byt_get hjs
            have qj : (((s[j]'hjs).toNat : Int) == 10) = false := beq_eq_false_iff_ne.2 (by omega)
            clear hb hby2
            go_wp2
            go_roundw
            case rel => exact ⟨j + 1, by simp, by omega, by omega, HL2⟩
            case measure => simp [vnatD] <;> omega
          · obtain rfl : j = E := by omega
            by_cases hjs : j < s.size
            · have hb : byt s j = 10 := by
                rcases HLE.out.2.2.2 with q | q
                · omega
                · exact q
              have hby2 := byt_get hjs
              have hji : (j : Int) < (s.size : Int) := by omega
              have qj : (s[j]'hjs).toNat = 10 := by omega
              clear hb hby2
              go_wp2
              go_roundw
              case rel => exact ⟨f, j, ln, fr, so, tk, rfl, rfl, rfl, rfl, by omega, by omega, by omega, by rw [HN.out]; omega, by omega, HV, HL2⟩
              case measure => simp [vnatD] <;> omega
            · have hji : ¬ ((j : Int) < (s.size : Int)) := by omega
              go_wp2
              go_roundw
              case rel => exact ⟨f, j, ln, fr, so, tk, rfl, rfl, rfl, rfl, by omega, by omega, by omega, by rw [HN.out]; omega, by omega, HV, HL2⟩
              case measure => simp [vnatD] <;> omega
      have q9 : (((s[ip]'hin).toNat : Int) == 9) = false := beq_eq_false_iff_ne.2 (by omega)
      have q13 : (((s[ip]'hin).toNat : Int) == 13) = false := beq_eq_false_iff_ne.2 (by omega)
      have q32 : (((s[ip]'hin).toNat : Int) == 32) = false := beq_eq_false_iff_ne.2 (by omega)
      have q35 : (((s[ip]'hin).toNat : Int) == 35) = false := beq_eq_false_iff_ne.2 (by omega)
      have hLE := le_end s (ip + 1) (by omega)
      have hnx := next_any s hs ip (LE s (ip + 1)) hin hLE
      have hnl := nx_le s ip (LE s (ip + 1)) hin hLE
      have hnb := nx_bounds s ip (LE s (ip + 1)) hin hLE
      have hRw := sc_word s f ip ln fr so tk hin h10 hg h35
      have hRe := sc_err s f ip ln fr so tk hin h10 hg h35
      generalize nxD s ip (LE s (ip + 1)) = X at *
      obtain ⟨K, e, er⟩ := X
      dsimp only at hnl hnb hRw hRe
      unfold nxV at hnx
      dsimp only at hnx
      clear hby h10 hg h35 hLE
      by_cases her : er = 0
      · subst her
        obtain ⟨hie, hes⟩ := hnb rfl
        have hR := hRw rfl
        have hct := refCount_any (s.extract fr ip) (by simp; omega)
        have hcb := starts_length (s.extract fr ip)
        have hce : (s.extract fr ip).size ≤ 65536 := by simp; omega
        unfold cnt at hR
        generalize (starts (s.extract fr ip)).length = C at *
        have HV : Hid (scD s f e ln fr true (tk ++ [((K : Int), s.extract ip e, (ln : Int), ((C + 1 : Nat) : Int))]) = R) := hR.symm.trans HS.out
        clear HS hR hRw hRe hnb
        go_wp2_with (go_at_call 20; (with_reducible refine (hnx _).mono ?_); rintro e u1 ⟨rfl, hb1⟩; have HL1 : Hid (SL w tk (.slice ar N cr) u1) := HL.out.carry hb1; have hbz1 := HL1.out.bl.size)
        have bld : ∀ {d : Nat → Bool} (g : Nat × Option Addr × Nat) (V : World), JW w tk ar N cr ((K : Int), s.extract ip e, (ln : Int), ((C + 1 : Nat) : Int)) g (d 14) (d 15) V → d 14 = false → d 15 = false → JW w tk ar N cr ((K : Int), s.extract ip e, (ln : Int), ((C + 1 : Nat) : Int)) (V.heap.size, g.2) true (d 15) (V.alloc (.cells #[.int .i64 (K : Int), .string (s.extract ip e), .int .i64 (ln : Int), .int .i64 ((C + 1 : Nat) : Int)] 50)) := by
          intro d g V hJ h14 h15
          rw [h14] at hJ
          rw [h15]
          have hJ' : SL w tk (.slice ar N cr) V := hJ
          exact ⟨hJ'.carry (al1' _ _), new_at rfl⟩
        have app : ∀ {d : Nat → Bool} (g : Nat × Option Addr × Nat) (V : World), JW w tk ar N cr ((K : Int), s.extract ip e, (ln : Int), ((C + 1 : Nat) : Int)) g (d 14) (d 15) V → d 14 = true → d 15 = false → ∃ (g' : Nat × Option Addr × Nat) (w' : World), (Builtin.append_ #[39, 39] 39 #[.slice ar N cr, .slice (some ⟨g.1, 0, none⟩) 1 1]).run Tryz.prog V = .ok (.slice g'.2.1 (N + 1) g'.2.2) w' ∧ g' = (g.1, g'.2) ∧ JW w tk ar N cr ((K : Int), s.extract ip e, (ln : Int), ((C + 1 : Nat) : Int)) g' (d 14) true w' := by
          intro d g V hJ h14 h15
          rw [h14, h15] at hJ
          rw [h14]
          obtain ⟨k1, k2⟩ := hJ
          have hrow : V.ownsRow w.heap.size 50 4 (.slice ar N cr) N (cells4 tk) := by have := k1.row; rw [HN.out] at this; exact this
          obtain ⟨v', w', hr, h2, h3, _, _⟩ := run_append_own_at (P := Tryz.prog) V w.heap.size 39 39 50 ic _ 4 40 Tryz.underlying39 hic hz0 hz1 hz2 rfl (by decide) (.slice ar N cr) N (cells4 tk) hrow ⟨g.1, 0, none⟩ 1 1 [.int .i64 (K : Int), .string (s.extract ip e), .int .i64 (ln : Int), .int .i64 ((C + 1 : Nat) : Int)] rfl (fun j u hj => by rw [add_pl, Nat.zero_add, cell_at k2 j, ← hj]; simp) (by simp [Value.oneCell']) (by unfold maxLen; omega) (by omega) (by have := k1.bl.size; omega)
          obtain ⟨ad', cap', rfl⟩ := row_slice h2
          exact ⟨(g.1, ad', cap'), w', hr, rfl, k1.more ((K : Int), s.extract ip e, (ln : Int), ((C + 1 : Nat) : Int)) h3 (by rw [HN.out]; exact h2)⟩
        refine wp_region_any hmx ?_
        refine wpAny_tabG (G := (Nat × Option Addr × Nat)) (fun g i__ => ([(.slice ar N cr), (.int .i64 (K : Int)), (.string s), (.int .i64 (ip : Int)), (.int .i64 (e : Int)), (.string (s.extract ip e)), (.int .i64 (ln : Int)), (.string s), (.int .i64 (fr : Int)), (.int .i64 (ip : Int)), (.string (s.extract fr ip)), (.int .i64 (C : Int)), (.int .i64 ((C + 1 : Nat) : Int)), (.agg #[.int .i64 (K : Int), .string (s.extract ip e), .int .i64 (ln : Int), .int .i64 ((C + 1 : Nat) : Int)]), (.slice (some ⟨g.1, 0, none⟩) 1 1), (.slice g.2.1 (N + 1) g.2.2), (.slice g.2.1 (N + 1) g.2.2)] : List Value).getD i__ undef) (fun g d V => JW w tk ar N cr ((K : Int), s.extract ip e, (ln : Int), ((C + 1 : Nat) : Int)) g (d 14) (d 15) V) (by kernel_rfl) ((0, none, 0)) (HL1.out.carry (Below.refl _ _).drew) ?step3 ?fin3
        case step3 =>
          intro i o ho
          have hi : i < 17 := getElem?_lt ho
          match i, hi, ho with
          | 0, _, ho =>
            cases ho
            refine stepG_of (fun g d hdep => ?_)
            exact step_move rfl trivial _ rfl (by kernel_rfl)
          | 1, _, ho =>
            cases ho
            refine stepG_of (fun g d hdep => ?_)
            exact step_move rfl trivial _ rfl (by kernel_rfl)
          | 2, _, ho =>
            cases ho
            refine stepG_of (fun g d hdep => ?_)
            exact step_move rfl trivial _ rfl (by kernel_rfl)
          | 3, _, ho =>
            cases ho
            refine stepG_of (fun g d hdep => ?_)
            exact step_move rfl trivial _ rfl (by kernel_rfl)
          | 4, _, ho =>
            cases ho
            refine stepG_of (fun g d hdep => ?_)
            exact step_move rfl trivial _ rfl (by kernel_rfl)
          | 5, _, ho =>
            cases ho
            refine stepG_of (fun g d hdep => ?_)
            exact step_slice rfl trivial _ _ _ _ _ (some (.int .i64 (ip : Int))) (some (.int .i64 (e : Int))) rfl rfl rfl rfl (fun v hw => slice_lhS (by omega) hes v)
          | 6, _, ho =>
            cases ho
            refine stepG_of (fun g d hdep => ?_)
            exact step_move rfl trivial _ rfl (by kernel_rfl)
          | 7, _, ho =>
            cases ho
            refine stepG_of (fun g d hdep => ?_)
            exact step_move rfl trivial _ rfl (by kernel_rfl)
          | 8, _, ho =>
            cases ho
            refine stepG_of (fun g d hdep => ?_)
            exact step_move rfl trivial _ rfl (by kernel_rfl)
          | 9, _, ho =>
            cases ho
            refine stepG_of (fun g d hdep => ?_)
            exact step_move rfl trivial _ rfl (by kernel_rfl)
          | 10, _, ho =>
            cases ho
            refine stepG_of (fun g d hdep => ?_)
            exact step_slice rfl trivial _ _ _ _ _ (some (.int .i64 (fr : Int))) (some (.int .i64 (ip : Int))) rfl rfl rfl rfl (fun v hw => slice_lhS hfr (by omega) v)
          | 11, _, ho =>
            cases ho
            refine stepG_of (fun g d hdep => ?_)
            exact step_call rfl trivial 19 _ _ [(.string (s.extract fr ip))] rfl (by kernel_rfl) (enters_of Tryz.func19 (by kernel_rfl) rfl) (fun v hw => (hct v).mono (by rintro e0 w' ⟨rfl, hb⟩; exact ⟨rfl, JW.carry hw hb⟩))
          | 12, _, ho =>
            cases ho
            refine stepG_of (fun g d hdep => ?_)
            exact step_binOp rfl trivial _ _ _ _ _ _ _ rfl rfl rfl (fun v hw => bin_add1 C (by omega))
          | 13, _, ho =>
            cases ho
            exact stepG_struct4 rfl rfl _ _ _ _ _ (fun g => .int .i64 (K : Int)) (fun g => .string (s.extract ip e)) (fun g => .int .i64 (ln : Int)) (fun g => .int .i64 ((C + 1 : Nat) : Int)) rfl (fun g => ⟨rfl, rfl, rfl, rfl⟩) (fun g d V hJ hun => ⟨build_q _ _ _ _ V, hJ⟩)
          | 14, _, ho =>
            cases ho
            exact stepG_buildG rfl rfl _ _ (fun g => .agg #[.int .i64 (K : Int), .string (s.extract ip e), .int .i64 (ln : Int), .int .i64 ((C + 1 : Nat) : Int)]) rfl (fun g => rfl) (fun g d V hJ hun hdep hcl => ⟨(V.heap.size, g.2), _, bs_q _ _ _ _ V, (fun j hj => match j, hj with | 14, hj => (by rw [hj] at hun; cases hun)  | 0, _ => rfl | 1, _ => rfl | 2, _ => rfl | 3, _ => rfl | 4, _ => rfl | 5, _ => rfl | 6, _ => rfl | 7, _ => rfl | 8, _ => rfl | 9, _ => rfl | 10, _ => rfl | 11, _ => rfl | 12, _ => rfl | 13, _ => rfl | 15, _ => rfl | 16, _ => rfl | _ + 17, _ => rfl), bld g V hJ hun (by cases h : d 15 with | false => rfl | true => exact absurd (hcl 15 _ rfl h 14 (by kernel_rfl)) (by rw [hun]; simp))⟩)
          | 15, _, ho =>
            cases ho
            exact stepG_append rfl rfl _ _ _ (fun _ => .slice ar N cr) (fun g => .slice (some ⟨g.1, 0, none⟩) 1 1) rfl (fun g => rfl) (fun g => rfl) (fun g d V hJ hun hdep hcl => by obtain ⟨g', w', a1, a2, a3⟩ := app g V hJ (hdep 14 (by kernel_rfl)) hun; exact ⟨g', w', a1, (by rw [a2]; exact (fun j hj => match j, hj with | 15, hj => (by rw [hj] at hun; cases hun) | 16, hj => absurd ((hcl 16 _ rfl hj 15 (by kernel_rfl))) (by rw [hun]; simp) | 0, _ => rfl | 1, _ => rfl | 2, _ => rfl | 3, _ => rfl | 4, _ => rfl | 5, _ => rfl | 6, _ => rfl | 7, _ => rfl | 8, _ => rfl | 9, _ => rfl | 10, _ => rfl | 11, _ => rfl | 12, _ => rfl | 13, _ => rfl | 14, _ => rfl | _ + 17, _ => rfl)), a3⟩)
          | 16, _, ho =>
            cases ho
            refine stepG_of (fun g d hdep => ?_)
            exact step_assign rfl trivial _ rfl (by kernel_rfl) (fun _ h => h)
        intro g d W hall hW
        first | refine hK _ _ ?_ | refine (‹∀ (a : Act) (w : World), Code.wp Tryz.prog _ _ a w → _›) _ _ ?_ | skip
        simp only [finL, List.getD_cons_zero, List.getD_cons_succ, Nat.zero_add, Nat.reduceAdd, List.setIfInBounds_toArray, List.set_cons_zero, List.set_cons_succ]
        have hJ : JW w tk ar N cr ((K : Int), s.extract ip e, (ln : Int), ((C + 1 : Nat) : Int)) g (d 14) (d 15) W := hW
        rw [hall 14 (by decide), hall 15 (by decide)] at hJ
        have HX : Hid (SL w (tk ++ [((K : Int), s.extract ip e, (ln : Int), ((C + 1 : Nat) : Int))]) (.slice g.2.1 (N + 1) g.2.2) W) := hJ
        clear hW hJ bld app
        go_wp2
        go_roundw
        case rel => exact ⟨f, e, ln, fr, true, _, rfl, rfl, rfl, rfl, by omega, by omega, by omega, by rw [List.length_append, HN.out]; simp; omega, by omega, HV, HX⟩
        case measure => simp [vnatD] <;> omega
      · have hR := hRe her
        have hri : ¬ ((er : Int) = 0) := by omega
        have hpl := place_any s hs e hnl
        unfold cnt at hR
        have hcb := starts_length (s.extract (plc s e).2 e)
        have hce : (s.extract (plc s e).2 e).size ≤ 65536 := by simp; omega
        generalize (starts (s.extract (plc s e).2 e)).length = C at *
        generalize (plc s e).1 = A at *
        have HV : Hid (R = .inr (er, A, C + 1)) := HS.out.symm.trans hR
        clear HS hR hRw hRe hnb
        go_wp2_with (first | (go_at_call 20; (with_reducible refine (hnx _).mono ?_); rintro e u1 ⟨rfl, hb1⟩) | (go_at_call 21; (with_reducible refine (hpl _).mono ?_); rintro e u2 ⟨rfl, hb2⟩))
        (try simp only [Exit.inBlock, Exit.then])
        refine bodyPost_ret (results_tmp4 rfl _ _ _) rfl ?_
        rw [HV.out]
        exact ⟨bel2 (bel2 HL.out.bl hb1) hb2, rfl⟩
end Go.Proofs.YtngjjcmoekeciaaGreatDoor
namespace Go.Proofs.YtngjjcmoekeciaaGreatDoor
open Go.RowKit Go.Shelf

set_option maxRecDepth 100000 in
theorem rScan_long (s : ByteArray) (hs : 65536 < s.size) (w : World) : Calls Tryz.prog 6 #[.string s] w fun e w' => e = .returned (.tuple #[.slice none 0 0, .int .i64 2, .int .i64 0, .int .i64 0]) ∧ Below w.heap.size w w' := by
  have hsi : (s.size : Int) > 65536 := by omega
  go_enter Tryz.func6, Tryz.ntmps6
  go_wp2
  (try simp only [Exit.inBlock, Exit.then])
  refine bodyPost_ret (results_tmp4 rfl _ _ _) rfl ?_
  exact ⟨rfl, Below.refl _ _⟩
end Go.Proofs.YtngjjcmoekeciaaGreatDoor
namespace Go.Proofs.YtngjjcmoekeciaaGreatDoor
open Go.RowKit Go.Shelf
set_option maxHeartbeats 1000000 in
set_option maxRecDepth 100000 in
theorem scan_long (s : ByteArray) (hs : 65536 < s.size) (w : World) : Calls Tryz.prog 5 #[.string s] w fun e w' => e = .returned (.tuple #[.slice none 0 0, .int .i64 2, .int .i64 0, .int .i64 0]) ∧ Below w.heap.size w w' := by
  have hg : 65536 < (s.size : Int) := by omega
  go_enter Tryz.func5, Tryz.ntmps5
  go_wp2
  refine ⟨rfl, .tuple #[.slice none 0 0, .int .i64 2, .int .i64 0, .int .i64 0], by simp [results, Tryz.results5, go_sem], rfl, ?_⟩
  exact ((((Below.refl _ w).alloc (by simp) _).alloc (by simp) _).alloc (by simp; omega) _).alloc (by simp; omega) _
end Go.Proofs.YtngjjcmoekeciaaGreatDoor
