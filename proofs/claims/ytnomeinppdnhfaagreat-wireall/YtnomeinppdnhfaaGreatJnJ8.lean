/- idset.Within; the document's Of, Full, Within: what they answer, at every input. -/
import Derived.Test.YtnomeinppdnhfaaGreatJnJ7
import Derived.Test.YtnomeinppdnhfaaGreatWth
import Derived.Test.YtnomeinppdnhfaaGreatWtn
import Derived.Test.YtnomeinppdnhfaaGreatJnJ6
import Derived.Test.YtnomeinppdnhfaaGreatJnJ3
namespace Go.Proofs.YtnomeinppdnhfaaGreat
open Go.RowKit Go.Shelf Go.Lib

theorem ofN_lt : ∀ (ids : List Int) (N M : Nat), N < S100 → ofN ids N = some M → M < S100
  | [], N, M, h, e => by simp [ofN] at e; omega
  | x :: r, N, M, h, e => by
    rw [ofN] at e
    split at e
    · rename_i hx
      refine ofN_lt r _ M ?_ e
      exact Nat.or_lt_two_pow (n := 100) h (Nat.pow_lt_pow_right (by decide) (by omega))
    · cases e
set_option maxHeartbeats 1000000 in
set_option maxRecDepth 100000 in
theorem rWithin_any (N : Nat) (hN : N < S128) (n : Int) (w : World) : Calls Tryz.prog 19 #[sv N, .int .i64 n] w fun e w' => e = .returned (.bool (wthB N n)) ∧ Below w.heap.size w w' := by
  simp only [sv]
  go_enter Tryz.func19, Tryz.ntmps19
  go_wp2
  go_loopw [5] (fun c wz => ∃ k : Nat, c = .int .i64 k ∧ k ≤ 128 ∧ (∀ i, i < k → N.testBit i = true → i < topW n) ∧ Holds4 wz w.heap.size (wd N) ∧ Below w.heap.size w wz) (fun c _ => 128 - vnat c)
  case atStart => exact ⟨0, rfl, by omega, fun i h => by omega, get_new (by simp), alloc_below w _⟩
  case round =>
    obtain ⟨k, rfl, hk, he, h1, hb⟩ := hrel
    by_cases hk4 : k < 128
    · have hki : (k : Int) < 128 := by omega
      have hq : k / 32 < 4 := by omega
      have hq' : (k : Int) / 32 < 4 := by omega
      have hc1 := h1.cell (k / 32) hq
      have hbit : (bits BinOp.and IntKind.u32 ((wd N (k / 32) : Int) / 2 ^ (k % 32)) 1 == 1) = N.testBit k := by
        have e : (wd N (k / 32) : Int) / 2 ^ (k % 32) = ((wd N (k / 32) / 2 ^ (k % 32) : Nat) : Int) := by simp
        have hl : wd N (k / 32) / 2 ^ (k % 32) < 4294967296 := Nat.lt_of_le_of_lt (Nat.div_le_self _ _) (wd_lt N _)
        rw [e, show (1 : Int) = ((1 : Nat) : Int) from rfl, u32_and_nat _ _ hl (by omega), ← bit_word N k, ← shr_bit]
        by_cases h : wd N (k / 32) / 2 ^ (k % 32) &&& 1 = 1
        · rw [h]; rfl
        · have h2 : ¬ ((wd N (k / 32) / 2 ^ (k % 32) &&& 1 : Nat) : Int) = ((1 : Nat) : Int) := by omega
          rw [beq_eq_false_iff_ne.2 h, beq_eq_false_iff_ne.2 h2]
      have hbad : N.testBit k = true → ¬ k < topW n → wthB N n = false := by
        intro h2 h3
        unfold wthB
        rw [decide_eq_false_iff_not]
        intro h4
        have h5 : (N % 2 ^ topW n).testBit k = true := by rw [← h4]; exact h2
        rw [Nat.testBit_mod_two_pow] at h5
        simp [h3] at h5
      have htop := topW_lt n k
      cases hb0 : N.testBit k
      · rw [hb0] at hbit
        clear hbad htop
        go_wp2
        go_roundw
        case rel => exact ⟨k + 1, by simp, by omega, fun i hi h2 => by
          by_cases e : i = k
          · subst e; rw [hb0] at h2; cases h2
          · exact he i (by omega) h2, h1, hb⟩
        case measure => simp only [vnat]; omega
      · rw [hb0] at hbit hbad
        by_cases t1 : (k : Int) ≥ n
        · have t1' : n ≤ (k : Int) := t1
          have hres := hbad rfl (fun c => by have := htop.1 c; omega)
          clear hbad htop
          go_wp2
          go_ret
          first | exact ⟨rfl, hb⟩ | exact ⟨ret_bool hres.symm, hb⟩
        · by_cases t2 : (k : Int) ≥ 100
          · have t2' : 100 ≤ (k : Int) := t2
            have hres := hbad rfl (fun c => by have := htop.1 c; omega)
            clear hbad htop
            go_wp2
            go_ret
            first | exact ⟨rfl, hb⟩ | exact ⟨ret_bool hres.symm, hb⟩
          · have hkt : k < topW n := htop.2 ⟨by omega, by omega⟩
            clear hbad htop
            go_wp2
            go_roundw
            case rel => exact ⟨k + 1, by simp, by omega, fun i hi h2 => by
              by_cases e : i = k
              · subst e; exact hkt
              · exact he i (by omega) h2, h1, hb⟩
            case measure => simp only [vnat]; omega
    · have hk5 : k = 128 := by omega
      subst hk5
      have hres : wthB N n = true := by
        unfold wthB
        rw [decide_eq_true_eq]
        apply Nat.eq_of_testBit_eq; intro i
        rw [Nat.testBit_mod_two_pow]
        by_cases hi : i < 128
        · cases h2 : N.testBit i with
          | false => simp
          | true => simp [he i hi h2]
        · have : N.testBit i = false := Nat.testBit_lt_two_pow (Nat.lt_of_lt_of_le hN (Nat.pow_le_pow_right (n := 2) (i := 128) (by decide) (by omega)))
          simp [this]
      go_wp2
      go_ret
      first | exact ⟨rfl, hb⟩ | exact ⟨ret_bool hres.symm, hb⟩
end Go.Proofs.YtnomeinppdnhfaaGreat
namespace Go.Proofs.YtnomeinppdnhfaaGreat
open Go.RowKit Go.Shelf

set_option maxHeartbeats 2000000 in
set_option maxRecDepth 100000 in
theorem rnumber_any (base : Nat) (b0 : Value) (L : List Nat) (v m : Nat) (w : World) (hbase : base ≤ w.heap.size) (h : OwB w base b0 L) (hL : L.length ≤ 100000) (hm : m ≤ 8) : Calls Tryz.prog 21 #[b0, .int .i64 (v : Int), .int .i64 (m : Int)] w fun e w' => ∃ b', e = .returned b' ∧ OwB w' base b' (L ++ numB v m) ∧ Below base w w' := by
  obtain ⟨ic, hic, hz0, hz1, hz2⟩ := info_partsB
  go_enter Tryz.func21, Tryz.ntmps21
  go_wp2
  go_loopw [0, 7] (fun b i wz => ∃ (z : Int) (j : Nat) (C : List Nat), i = .int .i64 z ∧ Hid (z = (j : Int) - 1) ∧ -1 ≤ z ∧ z ≤ 8 ∧ j ≤ m ∧ C.length ≤ L.length + 8 ∧ Hid (C.length + j = L.length + m) ∧ Hid (C ++ numB v j = L ++ numB v m) ∧ OwB wz base b C ∧ Below base w wz) (fun _ i _ => match i with | .int _ z => (z + 1).toNat | _ => 0)
  case atStart => exact ⟨(m : Int) - 1, m, L, rfl, rfl, by omega, by omega, Nat.le_refl _, by omega, rfl, rfl, h, Below.refl _ _⟩
  case round =>
    obtain ⟨z, j, C, rfl, HZ, hz, hz8, hj, hC, HCL, HC, hrow, hbw⟩ := hrel
    have hsw := hbw.size
    by_cases hkl : 0 ≤ z
    · obtain ⟨q, rfl⟩ := Int.eq_ofNat_of_zero_le hkl
      have hjq : j = q + 1 := by have := HZ.out; omega
      subst hjq
      have HN : Hid ((C ++ [v / 2 ^ (8 * q) % 256]) ++ numB v q = L ++ numB v m) := by
        show (C ++ [v / 2 ^ (8 * q) % 256]) ++ numB v q = L ++ numB v m
        rw [← HC.out, numB, List.append_assoc]
        rfl
      obtain ⟨E, hE⟩ : ∃ E : Nat, 8 * q = E := ⟨_, rfl⟩
      rw [hE] at HN
      have h8 : (8 : Int) * (q : Int) = (E : Int) := by omega
      have hE64 : E ≤ 64 := by omega
      have hby := byte_of v E
      obtain ⟨D, hD⟩ : ∃ D : Nat, D = v / 2 ^ E % 256 := ⟨_, rfl⟩
      rw [← hD] at hby HN
      clear hE
      have hl2 : C.length ≤ 100008 := by omega
      have HC2 : Hid (C.length + (q + 1) = L.length + m) := HCL
      clear hD HCL
      unfold OwB at hrow
      clear h HC HZ
      have hbs := bs1
      go_wp2_with (at_builtin; refine wpList_append_own _ rfl _ _ 46 rfl base 5 ic _ 1 1 Tryz.underlying46 hic hz0 hz1 hz2 rfl (by decide) _ C.length (cB C) rfl (hrow.alloc _) ⟨wr.heap.size, 0, none⟩ 1 1 [_] rfl rfl (rowN _ #[_] _) (by simp [Value.oneCell']) (by unfold maxLen; omega) (by omega) (by simp; omega) ?_; intro v' w2 hown' hgrow _)
      go_roundw
      case rel =>
        refine ⟨(q : Int) - 1, q, C ++ [D], by simp, rfl, by omega, by omega, by omega, ?_, ?_, HN, ?_, (hbw.alloc (by omega) _).grown hgrow (by simp; omega) (fun q e => own_block hrow q e)⟩
        · have := HC2.out; simp; omega
        · show (C ++ [D]).length + q = L.length + m
          have := HC2.out; simp; omega
        · unfold OwB
          rw [cB_app, List.length_append]
          exact hown'
      case measure => simp
    · have hj0 : j = 0 := by have := HZ.out; omega
      subst hj0
      have HE : Hid (C = L ++ numB v m) := by have := HC.out; rw [numB, List.append_nil] at this; exact this
      clear HC HZ HCL
      go_wp2
      go_ret
      exact ⟨_, rfl, HE.out ▸ hrow, hbw⟩
theorem bs5 (W : World) (a b c d e : Int) : (Instr.buildSlice 46 5 #[(0, .int .u8 a), (1, .int .u8 b), (2, .int .u8 c), (3, .int .u8 d), (4, .int .u8 e)]).run Tryz.prog W = .ok (.slice (some ⟨W.heap.size, 0, none⟩) 5 5) (W.alloc (.cells #[.int .u8 a, .int .u8 b, .int .u8 c, .int .u8 d, .int .u8 e] 5)) := by
  go_simp
/-- What lies there while the document's form is made. -/
structure SR (w : World) (kd : Int) (fr : Nat) (rd : Int) (N : Nat) (v b : Value) (C : List Nat) (u : World) : Prop where
  rb : RB u w.heap.size kd fr rd N v
  be : Below w.heap.size w u
  sz : w.heap.size + 1 ≤ u.heap.size
  ow : OwB u (w.heap.size + 1) b C
  ln : C.length ≤ 600
theorem RB.lower {W W' : World} {b B : Nat} {k f r : Int} {N : Nat} {v : Value} (h : RB W b k f r N v) (hb : Below B W W') (hB : b < B) : RB W' b k f r N v := (hb.block b hB).trans h
theorem SR.step {w : World} {kd : Int} {fr : Nat} {rd : Int} {N : Nat} {v b : Value} {C : List Nat} {u u' : World} {b' : Value} {C' : List Nat} (h : SR w kd fr rd N v b C u) (hb : Below (w.heap.size + 1) u u') (ho : OwB u' (w.heap.size + 1) b' C') (hl : C'.length ≤ 600) : SR w kd fr rd N v b' C' u' :=
  ⟨h.rb.lower hb (Nat.lt_succ_self _), h.be.trans (hb.mono (Nat.le_succ _)), Nat.le_trans h.sz hb.size, ho, hl⟩
theorem SR.below {w : World} {kd : Int} {fr : Nat} {rd : Int} {N : Nat} {v b : Value} {C : List Nat} {u u' : World} (h : SR w kd fr rd N v b C u) (hb : Below u.heap.size u u') : SR w kd fr rd N v b C u' :=
  h.step (hb.mono h.sz) (h.ow.below hb) h.ln
theorem SR.app {w : World} {kd : Int} {fr : Nat} {rd : Int} {N : Nat} {v b : Value} {C : List Nat} {u u' : World} {b' : Value} {o : Obj} (xs : List Nat) (h : SR w kd fr rd N v b C u) (hg : (u.alloc o).grownBy u' b.ownBlock) (ho : u'.ownsRow (w.heap.size + 1) 5 1 b' (C.length + xs.length) (cB C ++ cB xs)) (hl : (C ++ xs).length ≤ 600) : SR w kd fr rd N v b' (C ++ xs) u' := by
  refine h.step (((Below.refl _ u).alloc h.sz o).grown hg (by simp; have := h.sz; omega) (fun k e => own_block h.ow k e)) ?_ hl
  unfold OwB
  rw [cB_app, List.length_append]
  exact ho
theorem load_rb {W : World} {p : Nat} {kd fr rd : Int} {N : Nat} {a : Option Addr} {n c : Nat} (h : RB W p kd fr rd N (.slice a n c)) : (Instr.loadAt 42 (.pointer (some ⟨p, 7, none⟩))).run Tryz.prog W = .ok (.slice a n c) W := by
  have c0 := h.cells.2.2.2.2.2.2.2
  go_simp
theorem field_rb (p : Nat) (W : World) : (Instr.fieldAt 44 (.pointer (some ⟨p, 0, none⟩)) 4).run Tryz.prog W = .ok (.pointer (some ⟨p, 7, none⟩)) W := by go_simp
theorem field_nt2 (b off : Nat) (W : World) : (Instr.fieldAt 80 (.pointer (some ⟨b, off, none⟩)) 2).run Tryz.prog W = .ok (.pointer (some ⟨b, off + 2, none⟩)) W := by go_simp
theorem load_kd {W : World} {b off : Nat} {l : List (Int × Int × Int)} (h : NtsAt W b off l) {k : Nat} {o t q : Int} (hx : l[k]? = some (o, t, q)) : (Instr.loadAt 3 (.pointer (some ⟨b, off + k * 3 + 2, none⟩))).run Tryz.prog W = .ok (.int .i64 q) W := by
  have := (h k _ hx).2.2
  go_simp
theorem conv8 (z : Nat) (h : z < 256) (w : World) : (convert 3 5 (.int .i64 (z : Int))).run Tryz.prog w = .ok (.int .u8 (z : Int)) w := by
  exact conv_int .u8 (z : Int) (by kernel_rfl) Tryz.underlying5 (by rw [IntKind.wrap_u8']; omega) w
/-- What lies there in the region that lays a notice's first two bytes. -/
structure JQ (w : World) (kd : Int) (fr : Nat) (rd : Int) (N : Nat) (v b : Value) (C : List Nat) (o q gb off : Nat) (l : List (Int × Int × Int)) (g : Nat × Value) (d15 d16 : Bool) (W : World) : Prop where
  rb : RB W w.heap.size kd fr rd N v
  be : Below w.heap.size w W
  sz : w.heap.size + 1 ≤ W.heap.size
  nt : NtsAt W gb off l
  ow : W.ownsRow (w.heap.size + 1) 5 1 (cond d16 g.2 b) (cond d16 (C.length + 2) C.length) (cond d16 (cB C ++ cB [o, q]) (cB C))
  bx : d15 = true → d16 = false → W.heap[g.1]? = some (.cells #[.int .u8 (o : Int), .int .u8 (q : Int)] 5 (0, 0))
section
variable {w : World} {kd : Int} {fr : Nat} {rd : Int} {N : Nat} {v b : Value} {C : List Nat} {o q gb off : Nat} {l : List (Int × Int × Int)} {g : Nat × Value} {W : World}
theorem JQ.build (hgb : gb < w.heap.size) (h : JQ w kd fr rd N v b C o q gb off l g false false W) : JQ w kd fr rd N v b C o q gb off l (W.heap.size, g.2) true false (W.alloc (.cells #[.int .u8 (o : Int), .int .u8 (q : Int)] 5)) := by
  have hb := al1' W (.cells #[.int .u8 (o : Int), .int .u8 (q : Int)] 5)
  exact ⟨h.rb.below hb, bel2 h.be hb, by have := h.sz; simp; omega, h.nt.carry (Nat.lt_of_lt_of_le hgb h.be.size) hb, row_below h.ow hb, fun _ _ => new_at rfl⟩
theorem JQ.app (hgb : gb < w.heap.size) (ty : TypeId) (hC : C.length ≤ 600) (h : JQ w kd fr rd N v b C o q gb off l g true false W) : ∃ v' W', (Builtin.append_ #[46, 46] ty #[b, .slice (some ⟨g.1, 0, none⟩) 2 2]).run Tryz.prog W = .ok v' W' ∧ JQ w kd fr rd N v b C o q gb off l (g.1, v') true true W' := by
  obtain ⟨ic, hic, hz0, hz1, hz2⟩ := info_partsB
  have hbx := h.bx rfl rfl
  have ho : W.ownsRow (w.heap.size + 1) 5 1 b C.length (cB C) := h.ow
  obtain ⟨v', W', hr, h2, h3, _, _⟩ := run_append_own_at (P := Tryz.prog) W (w.heap.size + 1) 46 ty 5 ic _ 1 1 Tryz.underlying46 hic hz0 hz1 hz2 rfl (by decide) b C.length (cB C) ho ⟨g.1, 0, none⟩ 2 2 (cB [o, q]) rfl (fun j u hj => by
      rw [add_pl, Nat.zero_add, cell_at hbx j]
      match j, hj with
      | 0, hj => simp [cB] at hj; subst hj; rfl
      | 1, hj => simp [cB] at hj; subst hj; rfl
      | j + 2, hj => simp [cB] at hj) (by simp [cB, Value.oneCell']) (by unfold maxLen; omega) (by omega) h.sz
  have hbl : Below (w.heap.size + 1) W W' := (Below.refl _ W).grown h3 h.sz (fun k e => own_block ho k e)
  refine ⟨v', W', hr, h.rb.lower hbl (Nat.lt_succ_self _), h.be.trans (hbl.mono (Nat.le_succ _)), Nat.le_trans h.sz hbl.size, ?_, h2, fun _ e => by cases e⟩
  intro k x hk
  have := h.nt k x hk
  exact ⟨(hbl.cell (p := ⟨gb, off + k * 3, none⟩) (Nat.lt_succ_of_lt hgb)).trans this.1, (hbl.cell (p := ⟨gb, off + k * 3 + 1, none⟩) (Nat.lt_succ_of_lt hgb)).trans this.2.1, (hbl.cell (p := ⟨gb, off + k * 3 + 2, none⟩) (Nat.lt_succ_of_lt hgb)).trans this.2.2⟩
end
section
variable {G : Type} {P : Program} {md : Region.Mode} {ops : Array Oper} {Q : Exit → Act → World → Prop} {X0 : Array Value} {val : G → Nat → Value} {J : G → (Nat → Bool) → World → Prop} {i : Nat} {o : Oper}
theorem stepG_build2 (hi : ops[i]? = some o) (hg : o.guard = none) (t : TypeId) (x y : Operand) (v u : Value) (ho : o.op = .buildSlice t 2 #[(0, x), (1, y)]) (hx : ∀ g, rdo md ops X0 (val g) i o x = some v) (hy : ∀ g, rdo md ops X0 (val g) i o y = some u)
    (h : ∀ g d w, J g d w → d i = false → (∀ j oj, ops[j]? = some oj → d j = true → ∀ k, bindsOn md oj k = true → d k = true) → ∃ g' w', (Instr.buildSlice t 2 #[(0, v), (1, u)]).run P w = .ok (val g' i) w' ∧ (∀ j, d j = true → val g' j = val g j) ∧ J g' (fun j => if j = i then true else d j) w') : StepG P md ops Q X0 val J i o := by
  intro g d a w hJ hun hdep hcl hS
  have hS' : Seen md ops X0 (val g) i o a := hS
  obtain ⟨g', w', h1, h2, h3⟩ := h g d w hJ hun hcl
  unfold wpOp
  rw [hi]
  simp only [Region.wanted, hg, if_true]
  refine .inl ?_
  unfold Oper.wp execOp
  simp only [ho, List.map_toArray, List.map_cons, List.map_nil, hS'.eval (hx g), hS'.eval (hy g), Sem.run_bind, h1, Result.andThen_ok, Sem.run_pure, Oper.upon_value]
  exact ⟨g', h2, rfl, h3⟩
theorem stepG_append (hi : ops[i]? = some o) (hg : o.guard = none) (t : TypeId) (x y : Operand) (vx vy : G → Value) (ho : o.op = .call { callee := .builtin .append, args := #[x, y], argTypes := #[t, t] }) (hx : ∀ g, rdo md ops X0 (val g) i o x = some (vx g)) (hy : ∀ g, rdo md ops X0 (val g) i o y = some (vy g))
    (h : ∀ g d w, J g d w → d i = false → (∀ j, bindsOn md o j = true → d j = true) → (∀ j oj, ops[j]? = some oj → d j = true → ∀ k, bindsOn md oj k = true → d k = true) → ∃ g' w', (Builtin.append_ #[t, t] o.type #[vx g, vy g]).run P w = .ok (val g' i) w' ∧ (∀ j, d j = true → val g' j = val g j) ∧ J g' (fun j => if j = i then true else d j) w') : StepG P md ops Q X0 val J i o := by
  intro g d a w hJ hun hdep hcl hS
  have hS' : Seen md ops X0 (val g) i o a := hS
  obtain ⟨g', w', h1, h2, h3⟩ := h g d w hJ hun hdep hcl
  unfold wpOp
  rw [hi]
  simp only [Region.wanted, hg, if_true]
  refine .inl ?_
  unfold Oper.wp execOp
  simp only [ho, resolve, invoke, builtin, List.map_toArray, List.map_cons, List.map_nil, hS'.eval (hx g), hS'.eval (hy g), Sem.run_bind, h1, Result.andThen_ok, Sem.run_pure, Oper.upon_value]
  exact ⟨g', h2, rfl, h3⟩
end
end Go.Proofs.YtnomeinppdnhfaaGreat
namespace Go.Proofs.YtnomeinppdnhfaaGreat
open Go.RowKit Go.Shelf

theorem pre_bits {N i : Nat} : N % 2 ^ i + (if N.testBit i = true then 2 ^ i else 0) = N % 2 ^ (i + 1) := by
  rw [Nat.pow_succ, Nat.mod_mul, Nat.testBit_eq_decide_div_mod_eq]
  rcases Nat.mod_two_eq_zero_or_one (N / 2 ^ i) with h | h <;> simp [h]
theorem bo_err {kd : Nat} {n fr rd : Int} {N : Nat} {l : List (Int × Int × Int)} {w w' : World} {c : Int} (h : flt kd n fr rd N l = c) (hc : c ≠ 0) (hb : Below w.heap.size w w') : BO kd n fr rd N l w (.returned (.tuple #[.slice none 0 0, .int .i64 c])) w' := by
  refine ⟨_, by rw [h], ?_, hb⟩
  rw [fb7, if_neg (by rw [h]; exact hc)]
  exact owB_nil _ _
set_option maxHeartbeats 4000000 in
set_option maxRecDepth 100000 in
theorem rb3_no (n fr : Int) (ad : Option Addr) (cap : Nat) (l : List (Int × Int × Int)) (w : World) (h : RdN w ad l) (hl : l.length ≤ 6000000000000) (hf : ¬ flt 3 n fr 0 0 l = 0) : Calls Tryz.prog 7 #[.agg #[.int .i64 3, .int .i64 fr, .int .i64 0, .int .u32 (wd 0 0 : Nat), .int .u32 (wd 0 1 : Nat), .int .u32 (wd 0 2 : Nat), .int .u32 (wd 0 3 : Nat), .slice ad l.length cap], .int .i64 n] w (BO 3 n fr 0 0 l w) := by
  have hbW := al1' w (.cells #[.int .i64 3, .int .i64 fr, .int .i64 0, .int .u32 (wd 0 0 : Nat), .int .u32 (wd 0 1 : Nat), .int .u32 (wd 0 2 : Nat), .int .u32 (wd 0 3 : Nat), .slice ad l.length cap] 44)
  have hRB : RB (w.alloc (.cells #[.int .i64 3, .int .i64 fr, .int .i64 0, .int .u32 (wd 0 0 : Nat), .int .u32 (wd 0 1 : Nat), .int .u32 (wd 0 2 : Nat), .int .u32 (wd 0 3 : Nat), .slice ad l.length cap] 44)) w.heap.size 3 fr 0 0 (.slice ad l.length cap) := new_at rfl
  have hrW := h.carry hbW
  obtain ⟨W0, hW0⟩ : ∃ W0, w.alloc (.cells #[.int .i64 3, .int .i64 fr, .int .i64 0, .int .u32 (wd 0 0 : Nat), .int .u32 (wd 0 1 : Nat), .int .u32 (wd 0 2 : Nat), .int .u32 (wd 0 3 : Nat), .slice ad l.length cap] 44) = W0 := ⟨_, rfl⟩
  rw [hW0] at hbW hRB hrW
  obtain ⟨d0, d1, d2, d3, d4, d5, d6, d7⟩ := hRB.cells
  by_cases g1 : n < 1
  · have HF : Hid (flt 3 n fr 0 0 l = 1) := if_pos (by omega)
    clear hf
    go_enter Tryz.func7, Tryz.ntmps7
    go_wp2
    go_ret2
    exact bo_err HF.out (by decide) hbW
  by_cases g2 : 100 < n
  · have HF : Hid (flt 3 n fr 0 0 l = 1) := if_pos (by omega)
    clear hf
    go_enter Tryz.func7, Tryz.ntmps7
    go_wp2
    go_ret2
    exact bo_err HF.out (by decide) hbW
  by_cases g3 : fr < 0
  · have HF : Hid (flt 3 n fr 0 0 l = 72) := (if_neg (by omega)).trans (if_pos (by omega))
    clear hf
    go_enter Tryz.func7, Tryz.ntmps7
    go_wp2
    go_ret2
    exact bo_err HF.out (by decide) hbW
  by_cases g4 : n ≤ fr
  · have HF : Hid (flt 3 n fr 0 0 l = 72) := (if_neg (by omega)).trans (if_pos (by omega))
    clear hf
    go_enter Tryz.func7, Tryz.ntmps7
    go_wp2
    go_ret2
    exact bo_err HF.out (by decide) hbW
  have hri := fun W (hW : RdN W ad l) => rRising_any n ad cap l W hW hl
  have g8 : ris n (-1) l = false := by
    by_cases q : ris n (-1) l = false
    · exact q
    · exact absurd ((if_neg (by omega)).trans ((if_neg (by omega)).trans ((if_neg (by simp)).trans ((if_neg (by simp [wthB])).trans (if_neg q))))) hf
  have HF : Hid (flt 3 n fr 0 0 l = 75) := (if_neg (by omega)).trans ((if_neg (by omega)).trans ((if_neg (by simp)).trans ((if_neg (by simp [wthB])).trans (if_pos g8))))
  rw [g8] at hri
  clear hf
  go_enter Tryz.func7, Tryz.ntmps7
  go_wp2_with (first | (go_at_call 20; (with_reducible refine (hri _ hrW).mono ?_); rintro e u1 ⟨rfl, hb1⟩; have hbU1 := bel2 hbW hb1))
  go_ret2
  exact bo_err HF.out (by decide) hbU1
set_option maxHeartbeats 8000000 in
set_option maxRecDepth 100000 in
theorem rb3_ok (n fr : Nat) (ad : Option Addr) (cap : Nat) (l : List (Int × Int × Int)) (w : World) (h : RdN w ad l) (hf : flt 3 n fr 0 0 l = 0) : Calls Tryz.prog 7 #[.agg #[.int .i64 3, .int .i64 fr, .int .i64 0, .int .u32 (wd 0 0 : Nat), .int .u32 (wd 0 1 : Nat), .int .u32 (wd 0 2 : Nat), .int .u32 (wd 0 3 : Nat), .slice ad l.length cap], .int .i64 (n : Int)] w fun e w' => ∃ b, e = .returned (.tuple #[b, .int .i64 0]) ∧ OwB w' w.heap.size b (byt7 3 n fr 0 0 l) ∧ Below w.heap.size w w' := by
  have hmx : Tryz.prog.follows .mixedOrders = true := by kernel_rfl
  obtain ⟨hn, hfr, hrd, hwt, hri⟩ := flt_0 hf
  have hlen := ris_len n l (-1) (by omega) (by omega) hri
  have hbW := al1' w (.cells #[.int .i64 3, .int .i64 fr, .int .i64 0, .int .u32 (wd 0 0 : Nat), .int .u32 (wd 0 1 : Nat), .int .u32 (wd 0 2 : Nat), .int .u32 (wd 0 3 : Nat), .slice ad l.length cap] 44)
  have hRB : RB (w.alloc (.cells #[.int .i64 3, .int .i64 fr, .int .i64 0, .int .u32 (wd 0 0 : Nat), .int .u32 (wd 0 1 : Nat), .int .u32 (wd 0 2 : Nat), .int .u32 (wd 0 3 : Nat), .slice ad l.length cap] 44)) w.heap.size 3 fr 0 0 (.slice ad l.length cap) := new_at rfl
  have hrW := h.carry hbW
  obtain ⟨W0, hW0⟩ : ∃ W0, w.alloc (.cells #[.int .i64 3, .int .i64 fr, .int .i64 0, .int .u32 (wd 0 0 : Nat), .int .u32 (wd 0 1 : Nat), .int .u32 (wd 0 2 : Nat), .int .u32 (wd 0 3 : Nat), .slice ad l.length cap] 44) = W0 := ⟨_, rfl⟩
  rw [hW0] at hbW hRB hrW
  obtain ⟨d0, d1, d2, d3, d4, d5, d6, d7⟩ := hRB.cells
  have hriC := fun W (hW : RdN W ad l) => rRising_any n ad cap l W hW (by omega)
  rw [hri] at hriC
  obtain ⟨ic, hic, hz0, hz1, hz2⟩ := info_partsB
  have hl100 : l.length ≤ 100 := by omega
  have g1 : ¬ (n : Int) < 1 := by omega
  have g2 : ¬ (100 : Int) < (n : Int) := by omega
  have g3 : ¬ (fr : Int) < 0 := by omega
  have g4 : ¬ (n : Int) ≤ (fr : Int) := by omega
  have iN8 : (n : Int) % 256 = (n : Int) := by omega
  have iF8 : (fr : Int) % 256 = (fr : Int) := by omega
  have iL8 : (l.length : Int) % 256 = (l.length : Int) := by omega
  have hB1 := bs1
  have hB2 := bs2
  have hB5 := bs5
  obtain ⟨P, HPl, HP, HQ⟩ : ∃ P : List Nat, P.length ≤ 30 ∧ Hid (frm 3 n fr 0 0 l = P ++ newsB l) ∧ Hid (P = [101, 115, 3, n, fr] ++ [l.length]) := by
    refine ⟨[101, 115, 3, n, fr] ++ [l.length], ?_, ?_, rfl⟩
    · simp
    · show frm 3 n fr 0 0 l = _
      rw [frm, Nat.mod_eq_of_lt (show n < 256 by omega), Nat.mod_eq_of_lt (show fr < 256 by omega), Nat.mod_eq_of_lt (show l.length < 256 by omega)]
      simp [rndB, setB]
  have HL : Hid (RdN w ad l) := h
  have HRI : Hid (ris n (-1) l = true) := hri
  have h13 : l.length + 3 ≤ 103 := by omega
  clear h hwt hri hf hrd
  go_enter Tryz.func7, Tryz.ntmps7
  go_wp2_with (first | (go_at_call 20; (with_reducible refine (hriC _ hrW).mono ?_); rintro e u1 ⟨rfl, hb1⟩; have hbU1 := bel2 hbW hb1; have hRB1 := hRB.below hb1; have hS1 : SR w 3 fr 0 0 (.slice ad l.length cap) (.slice (some ⟨u1.heap.size, 0, none⟩) 5 5) [101, 115, 3, n, fr] (u1.alloc (.cells #[.int .u8 101, .int .u8 115, .int .u8 3, .int .u8 (n : Int), .int .u8 (fr : Int)] 5)) := ⟨hRB1.below (al1' u1 _), bel2 hbU1 (al1' u1 _), (by have := lt_at hRB1; simp; omega), World.ownsRow_lit (base := w.heap.size + 1) (e := 5) (size := 1) u1 #[.int .u8 101, .int .u8 115, .int .u8 3, .int .u8 (n : Int), .int .u8 (fr : Int)] 5 (lt_at hRB1) (by decide) (by simp), (by simp)⟩; clear d0 d1 d2 d3 d4 d5 d6 d7; obtain ⟨d0, d1, d2, d3, d4, d5, d6, d7⟩ := hRB1.cells; obtain ⟨f0, f1, f2, f3, f4, f5, f6, f7⟩ := hS1.rb.cells) | (at_builtin; refine wpList_append_own_at _ rfl _ _ 46 rfl (w.heap.size + 1) 5 ic _ 1 1 Tryz.underlying46 hic hz0 hz1 hz2 rfl (by decide) _ ([101, 115, 3, n, fr]).length (cB ([101, 115, 3, n, fr])) rfl (World.ownsRow.alloc (OwB.out hS1.ow) _) ⟨u1.heap.size + 1, 0, none⟩ 1 1 [_] rfl rfl (rowN_at _ #[_] _ (by simp)) (by simp [Value.oneCell']) (by have := hS1.ln; unfold maxLen; omega) (by have := hS1.ln; omega) (by have := hS1.sz; first | (simp; omega) | (simp at this ⊢; omega)) ?_; intro b' z6 hown' hgrow _ hob; have hS6 := SR.app [l.length] hS1 hgrow hown' (by simp); clear hown' hgrow hob; obtain ⟨d0, d1, d2, d3, d4, d5, d6, d7⟩ := hS6.rb.cells))
  have hS7 : SR w 3 fr 0 0 (.slice ad l.length cap) b' P z6 := HQ.out ▸ hS6
  clear hS6 hS1 HQ hRB hbW hrW hriC
  go_loopw [6, 10] (fun b i wz => ∃ (k : Nat), i = .int .i64 k ∧ k ≤ l.length ∧ SR w 3 fr 0 0 (.slice ad l.length cap) b (P ++ newsB (l.take k)) wz) (fun _ i _ => l.length - vnatW i)
  case atStart => exact ⟨0, rfl, Nat.zero_le _, by simpa [newsB] using hS7⟩
  case round =>
    obtain ⟨k, rfl, hk, hS⟩ := hrel
    clear hS7 d0 d1 d2 d3 d4 d5 d6 d7
    obtain ⟨d0, d1, d2, d3, d4, d5, d6, d7⟩ := hS.rb.cells
    have hsw := hS.sz
    by_cases hkl : k < l.length
    · have hki : (k : Int) < (l.length : Int) := by omega
      obtain ⟨⟨o, t, q⟩, hx⟩ : ∃ x, l[k]? = some x := ⟨_, List.getElem?_eq_getElem hkl⟩
      obtain ⟨v1, v2, v3, v4, v5, v6⟩ := vl_bounds (ris_get HRI.out hx)
      dsimp only at v1 v2 v3 v4 v5 v6
      obtain ⟨o, rfl⟩ := Int.eq_ofNat_of_zero_le v1
      obtain ⟨t, rfl⟩ := Int.eq_ofNat_of_zero_le v3
      obtain ⟨q, rfl⟩ := Int.eq_ofNat_of_zero_le (show 0 ≤ q by omega)
      obtain ⟨g', off, rfl, hgl, hat⟩ := HL.out (fun e => by subst e; simp at hkl)
      have ho256 : o < 256 := by omega
      have hq256 : q < 256 := by omega
      have HX : Hid (newsB (l.take (k + 1)) = newsB (l.take k) ++ [o, q] ++ numB t 3) := by
        have := newsB_step l k _ _ _ hx
        rw [Int.toNat_natCast, Int.toNat_natCast, Int.toNat_natCast, Nat.mod_eq_of_lt (show o < 256 by omega), Nat.mod_eq_of_lt (show q < 256 by omega)] at this
        exact this
      have hlk : (newsB (l.take k)).length ≤ 5 * k := by rw [newsB_len, List.length_take]; omega
      go_wp2
      refine wp_region_any hmx ?_
      refine wpAny_tabG (G := (Nat × Value)) (fun g i__ => ([u6, (.pointer (some ⟨w.heap.size, 7, none⟩)), (.slice (some ⟨g', off, none⟩) l.length cap), (.int .i64 (k : Int)), (.pointer (some ⟨g', off + k * 3, none⟩)), (.pointer (some ⟨g', off + k * 3, none⟩)), (.int .i64 (o : Int)), (.int .u8 (o : Int)), (.pointer (some ⟨w.heap.size, 7, none⟩)), (.slice (some ⟨g', off, none⟩) l.length cap), (.int .i64 (k : Int)), (.pointer (some ⟨g', off + k * 3, none⟩)), (.pointer (some ⟨g', off + k * 3 + 2, none⟩)), (.int .i64 (q : Int)), (.int .u8 (q : Int)), (.slice (some ⟨g.1, 0, none⟩) 2 2), g.2, g.2] : List Value).getD i__ undef) (fun g d W => JQ w 3 fr 0 0 (.slice (some ⟨g', off, none⟩) l.length cap) u6 (P ++ newsB (l.take k)) o q g' off l g (d 15) (d 16) W) (by kernel_rfl) ((0, undef)) (show JQ w 3 fr 0 0 (.slice (some ⟨g', off, none⟩) l.length cap) u6 (P ++ newsB (l.take k)) o q g' off l (0, undef) false false _ from ⟨hS.rb.below (Below.refl _ _).drew, hS.be.trans (Below.refl _ _).drew, hS.sz, hat.carry hgl (hS.be.trans (Below.refl _ _).drew), hS.ow.out, fun e => by cases e⟩) ?step2 ?fin2
      case step2 =>
        intro i o ho
        have hi : i < 18 := getElem?_lt ho
        match i, hi, ho with
        | 0, _, ho =>
          cases ho
          refine stepG_of (fun g d hdep => ?_)
          exact step_move rfl trivial _ rfl (by kernel_rfl)
        | 1, _, ho =>
          cases ho
          refine stepG_of (fun g d hdep => ?_)
          exact step_fieldAddr rfl trivial _ _ _ _ rfl rfl (fun w hw => field_rb _ w)
        | 2, _, ho =>
          cases ho
          refine stepG_of (fun g d hdep => ?_)
          exact step_load rfl trivial _ _ _ rfl rfl (fun w hw => load_rb hw.rb)
        | 3, _, ho =>
          cases ho
          refine stepG_of (fun g d hdep => ?_)
          exact step_move rfl trivial _ rfl (by kernel_rfl)
        | 4, _, ho =>
          cases ho
          refine stepG_of (fun g d hdep => ?_)
          exact step_indexAddr rfl trivial _ _ _ _ _ rfl rfl rfl (fun w hw => idx_n g' off l.length cap k hkl w)
        | 5, _, ho =>
          cases ho
          refine stepG_of (fun g d hdep => ?_)
          exact step_fieldAddr rfl trivial _ _ _ _ rfl rfl (fun w hw => field_at w _ _)
        | 6, _, ho =>
          cases ho
          refine stepG_of (fun g d hdep => ?_)
          exact step_load rfl trivial _ _ _ rfl rfl (fun w hw => load_of hw.nt hx)
        | 7, _, ho =>
          cases ho
          refine stepG_of (fun g d hdep => ?_)
          exact step_convert rfl trivial _ _ _ _ rfl rfl (fun w hw => conv8 o ho256 w)
        | 8, _, ho =>
          cases ho
          refine stepG_of (fun g d hdep => ?_)
          exact step_fieldAddr rfl trivial _ _ _ _ rfl rfl (fun w hw => field_rb _ w)
        | 9, _, ho =>
          cases ho
          refine stepG_of (fun g d hdep => ?_)
          exact step_load rfl trivial _ _ _ rfl rfl (fun w hw => load_rb hw.rb)
        | 10, _, ho =>
          cases ho
          refine stepG_of (fun g d hdep => ?_)
          exact step_move rfl trivial _ rfl (by kernel_rfl)
        | 11, _, ho =>
          cases ho
          refine stepG_of (fun g d hdep => ?_)
          exact step_indexAddr rfl trivial _ _ _ _ _ rfl rfl rfl (fun w hw => idx_n g' off l.length cap k hkl w)
        | 12, _, ho =>
          cases ho
          refine stepG_of (fun g d hdep => ?_)
          exact step_fieldAddr rfl trivial _ _ _ _ rfl rfl (fun w hw => field_nt2 _ _ w)
        | 13, _, ho =>
          cases ho
          refine stepG_of (fun g d hdep => ?_)
          exact step_load rfl trivial _ _ _ rfl rfl (fun w hw => load_kd hw.nt hx)
        | 14, _, ho =>
          cases ho
          refine stepG_of (fun g d hdep => ?_)
          exact step_convert rfl trivial _ _ _ _ rfl rfl (fun w hw => conv8 q hq256 w)
        | 15, _, ho =>
          cases ho
          exact stepG_build2 rfl rfl _ _ _ (.int .u8 (o : Int)) (.int .u8 (q : Int)) rfl (fun g => by kernel_rfl) (fun g => by kernel_rfl) (fun g d W hJ hun hcl => by have h16 : d 16 = false := (by cases h : d 16 with | false => rfl | true => exact absurd (hcl 16 _ rfl h 15 (by kernel_rfl)) (by rw [hun]; simp)); have hJ' := hJ; rw [hun, h16] at hJ'; refine ⟨(W.heap.size, g.2), _, bs2 _ _ _, (fun j hj => match j, hj with | 15, hj => (by rw [hj] at hun; cases hun)  | 0, _ => rfl | 1, _ => rfl | 2, _ => rfl | 3, _ => rfl | 4, _ => rfl | 5, _ => rfl | 6, _ => rfl | 7, _ => rfl | 8, _ => rfl | 9, _ => rfl | 10, _ => rfl | 11, _ => rfl | 12, _ => rfl | 13, _ => rfl | 14, _ => rfl | 16, _ => rfl | 17, _ => rfl | _ + 18, _ => rfl), ?_⟩; show JQ w 3 fr 0 0 (.slice (some ⟨g', off, none⟩) l.length cap) _ _ o q g' off l _ true (d 16) _; rw [h16]; exact hJ'.build hgl)
        | 16, _, ho =>
          cases ho
          exact stepG_append rfl rfl _ _ _ (fun _ => u6) (fun g => .slice (some ⟨g.1, 0, none⟩) 2 2) rfl (fun g => by kernel_rfl) (fun g => by kernel_rfl) (fun g d W hJ hun hdep hcl => by have h15 : d 15 = true := hdep 15 (by kernel_rfl); have hJ' := hJ; rw [h15, hun] at hJ'; obtain ⟨v', W', hr, hA⟩ := hJ'.app hgl 46 (by have := hS.ln; simpa using this); refine ⟨(g.1, v'), W', hr, (fun j hj => match j, hj with | 16, hj => (by rw [hj] at hun; cases hun) | 17, hj => absurd ((hcl 17 _ rfl hj 16 (by kernel_rfl))) (by rw [hun]; simp) | 0, _ => rfl | 1, _ => rfl | 2, _ => rfl | 3, _ => rfl | 4, _ => rfl | 5, _ => rfl | 6, _ => rfl | 7, _ => rfl | 8, _ => rfl | 9, _ => rfl | 10, _ => rfl | 11, _ => rfl | 12, _ => rfl | 13, _ => rfl | 14, _ => rfl | 15, _ => rfl | _ + 18, _ => rfl), ?_⟩; show JQ w 3 fr 0 0 (.slice (some ⟨g', off, none⟩) l.length cap) _ _ o q g' off l _ (d 15) true _; rw [h15]; exact hA)
        | 17, _, ho =>
          cases ho
          refine stepG_of (fun g d hdep => ?_)
          exact step_assign rfl trivial _ rfl (by kernel_rfl) (fun _ h => h)
      intro g d W hall hW
      first | refine hK _ _ ?_ | refine (‹∀ (a : Act) (w : World), Code.wp Tryz.prog _ _ a w → _›) _ _ ?_ | skip
      simp only [finL, List.getD_cons_zero, List.getD_cons_succ, Nat.zero_add, Nat.reduceAdd, List.setIfInBounds_toArray, List.set_cons_zero, List.set_cons_succ]
      rw [hall 15 (by decide), hall 16 (by decide)] at hW
      have hS2 : SR w 3 fr 0 0 (.slice (some ⟨g', off, none⟩) l.length cap) g.2 (P ++ newsB (l.take k) ++ [o, q]) W := ⟨hW.rb, hW.be, hW.sz, (by unfold OwB; rw [cB_app, List.length_append]; exact hW.ow), (by simp; omega)⟩
      have hnt := hW.nt
      clear hW hall d0 d1 d2 d3 d4 d5 d6 d7
      obtain ⟨d0, d1, d2, d3, d4, d5, d6, d7⟩ := hS2.rb.cells
      obtain ⟨x0, x1, x2⟩ := hnt k _ hx
      dsimp only at x0 x1 x2
      clear hat hx hnt v1 v2 v3 v4 v5 v6
      go_wp2_with (go_at_call 21; refine (rnumber_any (w.heap.size + 1) _ _ t 3 _ hS2.sz hS2.ow (by have := hS2.ln; omega) (by omega)).mono ?_; rintro e u3 ⟨b3, rfl, ho3, hb3⟩; have hS3 := hS2.step hb3 ho3 (by simp [numB_len]; omega))
      go_roundw
      case rel => exact ⟨k + 1, by simp, by omega, by rw [HX.out, ← List.append_assoc, ← List.append_assoc]; exact hS3⟩
      case measure => simp [vnatW]; omega
    · have hkk : k = l.length := by omega
      subst hkk
      rw [List.take_length, ← HP.out] at hS
      have hki : ¬ ((l.length : Int) < (l.length : Int)) := by omega
      obtain ⟨ad2, cap2, rfl, hrb⟩ := RdB.own hS.ow.out
      have hsum := rSum_any ad2 cap2 (frm 3 n fr 0 0 l) wr hrb (frm_byt _ _ _ _ _ _) (by have := hS.ln; omega)
      have hadd := rnumber_any (w.heap.size + 1) _ _ (sumV (frm 3 n fr 0 0 l)) 4 wr hS.sz hS.ow (by have := hS.ln; omega) (by omega)
      have HB : Hid (byt7 3 n fr 0 0 l = frm 3 n fr 0 0 l ++ numB (sumV (frm 3 n fr 0 0 l)) 4) := rfl
      generalize sumV (frm 3 n fr 0 0 l) = SV at *
      generalize frm 3 n fr 0 0 l = FM at *
      have hbe := hS.be
      clear hS hrb HP
      go_wp2_with (first | (go_at_call 23; refine hsum.mono ?_; rintro e u ⟨rfl, hu⟩; rw [hu]; clear hu u) | (go_at_call 21; refine hadd.mono ?_; rintro e u3 ⟨b3, rfl, ho3, hb3⟩))
      go_ret2
      exact ⟨_, rfl, by rw [HB.out]; exact ownsRow_base ho3 (Nat.le_succ _), hbe.trans (hb3.mono (Nat.le_succ _))⟩
set_option maxHeartbeats 4000000 in
set_option maxRecDepth 100000 in
theorem rb1_no (n fr rd : Int) (ad : Option Addr) (cap : Nat) (l : List (Int × Int × Int)) (w : World) (h : RdN w ad l) (hl : l.length ≤ 6000000000000) (hf : ¬ flt 1 n fr rd 0 l = 0) : Calls Tryz.prog 7 #[.agg #[.int .i64 1, .int .i64 fr, .int .i64 rd, .int .u32 (wd 0 0 : Nat), .int .u32 (wd 0 1 : Nat), .int .u32 (wd 0 2 : Nat), .int .u32 (wd 0 3 : Nat), .slice ad l.length cap], .int .i64 n] w (BO 1 n fr rd 0 l w) := by
  have hbW := al1' w (.cells #[.int .i64 1, .int .i64 fr, .int .i64 rd, .int .u32 (wd 0 0 : Nat), .int .u32 (wd 0 1 : Nat), .int .u32 (wd 0 2 : Nat), .int .u32 (wd 0 3 : Nat), .slice ad l.length cap] 44)
  have hRB : RB (w.alloc (.cells #[.int .i64 1, .int .i64 fr, .int .i64 rd, .int .u32 (wd 0 0 : Nat), .int .u32 (wd 0 1 : Nat), .int .u32 (wd 0 2 : Nat), .int .u32 (wd 0 3 : Nat), .slice ad l.length cap] 44)) w.heap.size 1 fr rd 0 (.slice ad l.length cap) := new_at rfl
  have hrW := h.carry hbW
  obtain ⟨W0, hW0⟩ : ∃ W0, w.alloc (.cells #[.int .i64 1, .int .i64 fr, .int .i64 rd, .int .u32 (wd 0 0 : Nat), .int .u32 (wd 0 1 : Nat), .int .u32 (wd 0 2 : Nat), .int .u32 (wd 0 3 : Nat), .slice ad l.length cap] 44) = W0 := ⟨_, rfl⟩
  rw [hW0] at hbW hRB hrW
  obtain ⟨d0, d1, d2, d3, d4, d5, d6, d7⟩ := hRB.cells
  by_cases g1 : n < 1
  · have HF : Hid (flt 1 n fr rd 0 l = 1) := if_pos (by omega)
    clear hf
    go_enter Tryz.func7, Tryz.ntmps7
    go_wp2
    go_ret2
    exact bo_err HF.out (by decide) hbW
  by_cases g2 : 100 < n
  · have HF : Hid (flt 1 n fr rd 0 l = 1) := if_pos (by omega)
    clear hf
    go_enter Tryz.func7, Tryz.ntmps7
    go_wp2
    go_ret2
    exact bo_err HF.out (by decide) hbW
  by_cases g3 : fr < 0
  · have HF : Hid (flt 1 n fr rd 0 l = 72) := (if_neg (by omega)).trans (if_pos (by omega))
    clear hf
    go_enter Tryz.func7, Tryz.ntmps7
    go_wp2
    go_ret2
    exact bo_err HF.out (by decide) hbW
  by_cases g4 : n ≤ fr
  · have HF : Hid (flt 1 n fr rd 0 l = 72) := (if_neg (by omega)).trans (if_pos (by omega))
    clear hf
    go_enter Tryz.func7, Tryz.ntmps7
    go_wp2
    go_ret2
    exact bo_err HF.out (by decide) hbW
  by_cases g5 : rd < 1
  · have HF : Hid (flt 1 n fr rd 0 l = 73) := (if_neg (by omega)).trans ((if_neg (by omega)).trans (if_pos ⟨by decide, by omega⟩))
    clear hf
    go_enter Tryz.func7, Tryz.ntmps7
    go_wp2
    go_ret2
    exact bo_err HF.out (by decide) hbW
  by_cases g6 : 1099511627775 < rd
  · have HF : Hid (flt 1 n fr rd 0 l = 73) := (if_neg (by omega)).trans ((if_neg (by omega)).trans (if_pos ⟨by decide, by omega⟩))
    clear hf
    go_enter Tryz.func7, Tryz.ntmps7
    go_wp2
    go_ret2
    exact bo_err HF.out (by decide) hbW
  have hri := fun W (hW : RdN W ad l) => rRising_any n ad cap l W hW hl
  have g8 : ris n (-1) l = false := by
    by_cases q : ris n (-1) l = false
    · exact q
    · exact absurd ((if_neg (by omega)).trans ((if_neg (by omega)).trans ((if_neg (by omega)).trans ((if_neg (by simp [wthB])).trans (if_neg q))))) hf
  have HF : Hid (flt 1 n fr rd 0 l = 75) := (if_neg (by omega)).trans ((if_neg (by omega)).trans ((if_neg (by omega)).trans ((if_neg (by simp [wthB])).trans (if_pos g8))))
  rw [g8] at hri
  clear hf
  go_enter Tryz.func7, Tryz.ntmps7
  go_wp2_with (first | (go_at_call 20; (with_reducible refine (hri _ hrW).mono ?_); rintro e u1 ⟨rfl, hb1⟩; have hbU1 := bel2 hbW hb1))
  go_ret2
  exact bo_err HF.out (by decide) hbU1
set_option maxHeartbeats 8000000 in
set_option maxRecDepth 100000 in
theorem rb1_ok (n fr : Nat) (rd : Int) (ad : Option Addr) (cap : Nat) (l : List (Int × Int × Int)) (w : World) (h : RdN w ad l) (hf : flt 1 n fr rd 0 l = 0) : Calls Tryz.prog 7 #[.agg #[.int .i64 1, .int .i64 fr, .int .i64 rd, .int .u32 (wd 0 0 : Nat), .int .u32 (wd 0 1 : Nat), .int .u32 (wd 0 2 : Nat), .int .u32 (wd 0 3 : Nat), .slice ad l.length cap], .int .i64 (n : Int)] w fun e w' => ∃ b, e = .returned (.tuple #[b, .int .i64 0]) ∧ OwB w' w.heap.size b (byt7 1 n fr rd.toNat 0 l) ∧ Below w.heap.size w w' := by
  have hmx : Tryz.prog.follows .mixedOrders = true := by kernel_rfl
  obtain ⟨hn, hfr, hrd, hwt, hri⟩ := flt_0 hf
  have hlen := ris_len n l (-1) (by omega) (by omega) hri
  have hbW := al1' w (.cells #[.int .i64 1, .int .i64 fr, .int .i64 rd, .int .u32 (wd 0 0 : Nat), .int .u32 (wd 0 1 : Nat), .int .u32 (wd 0 2 : Nat), .int .u32 (wd 0 3 : Nat), .slice ad l.length cap] 44)
  have hRB : RB (w.alloc (.cells #[.int .i64 1, .int .i64 fr, .int .i64 rd, .int .u32 (wd 0 0 : Nat), .int .u32 (wd 0 1 : Nat), .int .u32 (wd 0 2 : Nat), .int .u32 (wd 0 3 : Nat), .slice ad l.length cap] 44)) w.heap.size 1 fr rd 0 (.slice ad l.length cap) := new_at rfl
  have hrW := h.carry hbW
  obtain ⟨W0, hW0⟩ : ∃ W0, w.alloc (.cells #[.int .i64 1, .int .i64 fr, .int .i64 rd, .int .u32 (wd 0 0 : Nat), .int .u32 (wd 0 1 : Nat), .int .u32 (wd 0 2 : Nat), .int .u32 (wd 0 3 : Nat), .slice ad l.length cap] 44) = W0 := ⟨_, rfl⟩
  rw [hW0] at hbW hRB hrW
  obtain ⟨d0, d1, d2, d3, d4, d5, d6, d7⟩ := hRB.cells
  have hriC := fun W (hW : RdN W ad l) => rRising_any n ad cap l W hW (by omega)
  rw [hri] at hriC
  have hr0 : 0 ≤ rd := by omega
  have har : ∀ (b : Value) (C : List Nat) (u : World), w.heap.size + 1 ≤ u.heap.size → OwB u (w.heap.size + 1) b C → C.length ≤ 100000 → Calls Tryz.prog 21 #[b, .int .i64 rd, .int .i64 5] u fun e w' => ∃ b', e = .returned b' ∧ OwB w' (w.heap.size + 1) b' (C ++ numB rd.toNat 5) ∧ Below (w.heap.size + 1) u w' := fun b C u hb ho hl => by
    have := rnumber_any (w.heap.size + 1) b C rd.toNat 5 u hb ho hl (by omega)
    rw [Int.toNat_of_nonneg hr0] at this
    exact this
  have g5 : ¬ rd < 1 := by omega
  have g6 : ¬ 1099511627775 < rd := by omega
  obtain ⟨ic, hic, hz0, hz1, hz2⟩ := info_partsB
  have hl100 : l.length ≤ 100 := by omega
  have g1 : ¬ (n : Int) < 1 := by omega
  have g2 : ¬ (100 : Int) < (n : Int) := by omega
  have g3 : ¬ (fr : Int) < 0 := by omega
  have g4 : ¬ (n : Int) ≤ (fr : Int) := by omega
  have iN8 : (n : Int) % 256 = (n : Int) := by omega
  have iF8 : (fr : Int) % 256 = (fr : Int) := by omega
  have iL8 : (l.length : Int) % 256 = (l.length : Int) := by omega
  have hB1 := bs1
  have hB2 := bs2
  have hB5 := bs5
  obtain ⟨P, HPl, HP, HQ⟩ : ∃ P : List Nat, P.length ≤ 30 ∧ Hid (frm 1 n fr rd.toNat 0 l = P ++ newsB l) ∧ Hid (P = [101, 115, 1, n, fr] ++ numB rd.toNat 5 ++ [l.length]) := by
    refine ⟨[101, 115, 1, n, fr] ++ numB rd.toNat 5 ++ [l.length], ?_, ?_, rfl⟩
    · simp [numB_len]
    · show frm 1 n fr rd.toNat 0 l = _
      rw [frm, Nat.mod_eq_of_lt (show n < 256 by omega), Nat.mod_eq_of_lt (show fr < 256 by omega), Nat.mod_eq_of_lt (show l.length < 256 by omega)]
      simp [rndB, setB]
  have HL : Hid (RdN w ad l) := h
  have HRI : Hid (ris n (-1) l = true) := hri
  have h13 : l.length + 3 ≤ 103 := by omega
  clear h hwt hri hf hrd hr0
  go_enter Tryz.func7, Tryz.ntmps7
  go_wp2_with (first | (go_at_call 20; (with_reducible refine (hriC _ hrW).mono ?_); rintro e u1 ⟨rfl, hb1⟩; have hbU1 := bel2 hbW hb1; have hRB1 := hRB.below hb1; have hS1 : SR w 1 fr rd 0 (.slice ad l.length cap) (.slice (some ⟨u1.heap.size, 0, none⟩) 5 5) [101, 115, 1, n, fr] (u1.alloc (.cells #[.int .u8 101, .int .u8 115, .int .u8 1, .int .u8 (n : Int), .int .u8 (fr : Int)] 5)) := ⟨hRB1.below (al1' u1 _), bel2 hbU1 (al1' u1 _), (by have := lt_at hRB1; simp; omega), World.ownsRow_lit (base := w.heap.size + 1) (e := 5) (size := 1) u1 #[.int .u8 101, .int .u8 115, .int .u8 1, .int .u8 (n : Int), .int .u8 (fr : Int)] 5 (lt_at hRB1) (by decide) (by simp), (by simp)⟩; clear d0 d1 d2 d3 d4 d5 d6 d7; obtain ⟨d0, d1, d2, d3, d4, d5, d6, d7⟩ := hRB1.cells; obtain ⟨f0, f1, f2, f3, f4, f5, f6, f7⟩ := hS1.rb.cells) | (go_at_call 21; (with_reducible refine (har _ ([101, 115, 1, n, fr]) _ hS1.sz hS1.ow (by simp)).mono ?_); rintro e u4 ⟨b4, rfl, ho4, hb4⟩; have hS4 : SR w 1 fr rd 0 (.slice ad l.length cap) b4 ([101, 115, 1, n, fr] ++ numB rd.toNat 5) u4 := hS1.step hb4 ho4 (by simp [numB_len]); clear d0 d1 d2 d3 d4 d5 d6 d7; obtain ⟨d0, d1, d2, d3, d4, d5, d6, d7⟩ := hS4.rb.cells) | (at_builtin; refine wpList_append_own_at _ rfl _ _ 46 rfl (w.heap.size + 1) 5 ic _ 1 1 Tryz.underlying46 hic hz0 hz1 hz2 rfl (by decide) _ ([101, 115, 1, n, fr] ++ numB rd.toNat 5).length (cB ([101, 115, 1, n, fr] ++ numB rd.toNat 5)) rfl (World.ownsRow.alloc (OwB.out hS4.ow) _) ⟨u4.heap.size, 0, none⟩ 1 1 [_] rfl rfl (rowN _ #[_] _) (by simp [Value.oneCell']) (by have := hS4.ln; unfold maxLen; omega) (by have := hS4.ln; omega) (by have := hS4.sz; first | (simp; omega) | (simp at this ⊢; omega)) ?_; intro b' z6 hown' hgrow _ hob; have hS6 := SR.app [l.length] hS4 hgrow hown' (by simp [numB_len]); clear hown' hgrow hob; obtain ⟨d0, d1, d2, d3, d4, d5, d6, d7⟩ := hS6.rb.cells))
  have hS7 : SR w 1 fr rd 0 (.slice ad l.length cap) b' P z6 := HQ.out ▸ hS6
  clear hS6 hS1 HQ hRB hbW hrW hriC hS4 har
  go_loopw [6, 10] (fun b i wz => ∃ (k : Nat), i = .int .i64 k ∧ k ≤ l.length ∧ SR w 1 fr rd 0 (.slice ad l.length cap) b (P ++ newsB (l.take k)) wz) (fun _ i _ => l.length - vnatW i)
  case atStart => exact ⟨0, rfl, Nat.zero_le _, by simpa [newsB] using hS7⟩
  case round =>
    obtain ⟨k, rfl, hk, hS⟩ := hrel
    clear hS7 d0 d1 d2 d3 d4 d5 d6 d7
    obtain ⟨d0, d1, d2, d3, d4, d5, d6, d7⟩ := hS.rb.cells
    have hsw := hS.sz
    by_cases hkl : k < l.length
    · have hki : (k : Int) < (l.length : Int) := by omega
      obtain ⟨⟨o, t, q⟩, hx⟩ : ∃ x, l[k]? = some x := ⟨_, List.getElem?_eq_getElem hkl⟩
      obtain ⟨v1, v2, v3, v4, v5, v6⟩ := vl_bounds (ris_get HRI.out hx)
      dsimp only at v1 v2 v3 v4 v5 v6
      obtain ⟨o, rfl⟩ := Int.eq_ofNat_of_zero_le v1
      obtain ⟨t, rfl⟩ := Int.eq_ofNat_of_zero_le v3
      obtain ⟨q, rfl⟩ := Int.eq_ofNat_of_zero_le (show 0 ≤ q by omega)
      obtain ⟨g', off, rfl, hgl, hat⟩ := HL.out (fun e => by subst e; simp at hkl)
      have ho256 : o < 256 := by omega
      have hq256 : q < 256 := by omega
      have HX : Hid (newsB (l.take (k + 1)) = newsB (l.take k) ++ [o, q] ++ numB t 3) := by
        have := newsB_step l k _ _ _ hx
        rw [Int.toNat_natCast, Int.toNat_natCast, Int.toNat_natCast, Nat.mod_eq_of_lt (show o < 256 by omega), Nat.mod_eq_of_lt (show q < 256 by omega)] at this
        exact this
      have hlk : (newsB (l.take k)).length ≤ 5 * k := by rw [newsB_len, List.length_take]; omega
      go_wp2
      refine wp_region_any hmx ?_
      refine wpAny_tabG (G := (Nat × Value)) (fun g i__ => ([u6, (.pointer (some ⟨w.heap.size, 7, none⟩)), (.slice (some ⟨g', off, none⟩) l.length cap), (.int .i64 (k : Int)), (.pointer (some ⟨g', off + k * 3, none⟩)), (.pointer (some ⟨g', off + k * 3, none⟩)), (.int .i64 (o : Int)), (.int .u8 (o : Int)), (.pointer (some ⟨w.heap.size, 7, none⟩)), (.slice (some ⟨g', off, none⟩) l.length cap), (.int .i64 (k : Int)), (.pointer (some ⟨g', off + k * 3, none⟩)), (.pointer (some ⟨g', off + k * 3 + 2, none⟩)), (.int .i64 (q : Int)), (.int .u8 (q : Int)), (.slice (some ⟨g.1, 0, none⟩) 2 2), g.2, g.2] : List Value).getD i__ undef) (fun g d W => JQ w 1 fr rd 0 (.slice (some ⟨g', off, none⟩) l.length cap) u6 (P ++ newsB (l.take k)) o q g' off l g (d 15) (d 16) W) (by kernel_rfl) ((0, undef)) (show JQ w 1 fr rd 0 (.slice (some ⟨g', off, none⟩) l.length cap) u6 (P ++ newsB (l.take k)) o q g' off l (0, undef) false false _ from ⟨hS.rb.below (Below.refl _ _).drew, hS.be.trans (Below.refl _ _).drew, hS.sz, hat.carry hgl (hS.be.trans (Below.refl _ _).drew), hS.ow.out, fun e => by cases e⟩) ?step3 ?fin3
      case step3 =>
        intro i o ho
        have hi : i < 18 := getElem?_lt ho
        match i, hi, ho with
        | 0, _, ho =>
          cases ho
          refine stepG_of (fun g d hdep => ?_)
          exact step_move rfl trivial _ rfl (by kernel_rfl)
        | 1, _, ho =>
          cases ho
          refine stepG_of (fun g d hdep => ?_)
          exact step_fieldAddr rfl trivial _ _ _ _ rfl rfl (fun w hw => field_rb _ w)
        | 2, _, ho =>
          cases ho
          refine stepG_of (fun g d hdep => ?_)
          exact step_load rfl trivial _ _ _ rfl rfl (fun w hw => load_rb hw.rb)
        | 3, _, ho =>
          cases ho
          refine stepG_of (fun g d hdep => ?_)
          exact step_move rfl trivial _ rfl (by kernel_rfl)
        | 4, _, ho =>
          cases ho
          refine stepG_of (fun g d hdep => ?_)
          exact step_indexAddr rfl trivial _ _ _ _ _ rfl rfl rfl (fun w hw => idx_n g' off l.length cap k hkl w)
        | 5, _, ho =>
          cases ho
          refine stepG_of (fun g d hdep => ?_)
          exact step_fieldAddr rfl trivial _ _ _ _ rfl rfl (fun w hw => field_at w _ _)
        | 6, _, ho =>
          cases ho
          refine stepG_of (fun g d hdep => ?_)
          exact step_load rfl trivial _ _ _ rfl rfl (fun w hw => load_of hw.nt hx)
        | 7, _, ho =>
          cases ho
          refine stepG_of (fun g d hdep => ?_)
          exact step_convert rfl trivial _ _ _ _ rfl rfl (fun w hw => conv8 o ho256 w)
        | 8, _, ho =>
          cases ho
          refine stepG_of (fun g d hdep => ?_)
          exact step_fieldAddr rfl trivial _ _ _ _ rfl rfl (fun w hw => field_rb _ w)
        | 9, _, ho =>
          cases ho
          refine stepG_of (fun g d hdep => ?_)
          exact step_load rfl trivial _ _ _ rfl rfl (fun w hw => load_rb hw.rb)
        | 10, _, ho =>
          cases ho
          refine stepG_of (fun g d hdep => ?_)
          exact step_move rfl trivial _ rfl (by kernel_rfl)
        | 11, _, ho =>
          cases ho
          refine stepG_of (fun g d hdep => ?_)
          exact step_indexAddr rfl trivial _ _ _ _ _ rfl rfl rfl (fun w hw => idx_n g' off l.length cap k hkl w)
        | 12, _, ho =>
          cases ho
          refine stepG_of (fun g d hdep => ?_)
          exact step_fieldAddr rfl trivial _ _ _ _ rfl rfl (fun w hw => field_nt2 _ _ w)
        | 13, _, ho =>
          cases ho
          refine stepG_of (fun g d hdep => ?_)
          exact step_load rfl trivial _ _ _ rfl rfl (fun w hw => load_kd hw.nt hx)
        | 14, _, ho =>
          cases ho
          refine stepG_of (fun g d hdep => ?_)
          exact step_convert rfl trivial _ _ _ _ rfl rfl (fun w hw => conv8 q hq256 w)
        | 15, _, ho =>
          cases ho
          exact stepG_build2 rfl rfl _ _ _ (.int .u8 (o : Int)) (.int .u8 (q : Int)) rfl (fun g => by kernel_rfl) (fun g => by kernel_rfl) (fun g d W hJ hun hcl => by have h16 : d 16 = false := (by cases h : d 16 with | false => rfl | true => exact absurd (hcl 16 _ rfl h 15 (by kernel_rfl)) (by rw [hun]; simp)); have hJ' := hJ; rw [hun, h16] at hJ'; refine ⟨(W.heap.size, g.2), _, bs2 _ _ _, (fun j hj => match j, hj with | 15, hj => (by rw [hj] at hun; cases hun)  | 0, _ => rfl | 1, _ => rfl | 2, _ => rfl | 3, _ => rfl | 4, _ => rfl | 5, _ => rfl | 6, _ => rfl | 7, _ => rfl | 8, _ => rfl | 9, _ => rfl | 10, _ => rfl | 11, _ => rfl | 12, _ => rfl | 13, _ => rfl | 14, _ => rfl | 16, _ => rfl | 17, _ => rfl | _ + 18, _ => rfl), ?_⟩; show JQ w 1 fr rd 0 (.slice (some ⟨g', off, none⟩) l.length cap) _ _ o q g' off l _ true (d 16) _; rw [h16]; exact hJ'.build hgl)
        | 16, _, ho =>
          cases ho
          exact stepG_append rfl rfl _ _ _ (fun _ => u6) (fun g => .slice (some ⟨g.1, 0, none⟩) 2 2) rfl (fun g => by kernel_rfl) (fun g => by kernel_rfl) (fun g d W hJ hun hdep hcl => by have h15 : d 15 = true := hdep 15 (by kernel_rfl); have hJ' := hJ; rw [h15, hun] at hJ'; obtain ⟨v', W', hr, hA⟩ := hJ'.app hgl 46 (by have := hS.ln; simpa using this); refine ⟨(g.1, v'), W', hr, (fun j hj => match j, hj with | 16, hj => (by rw [hj] at hun; cases hun) | 17, hj => absurd ((hcl 17 _ rfl hj 16 (by kernel_rfl))) (by rw [hun]; simp) | 0, _ => rfl | 1, _ => rfl | 2, _ => rfl | 3, _ => rfl | 4, _ => rfl | 5, _ => rfl | 6, _ => rfl | 7, _ => rfl | 8, _ => rfl | 9, _ => rfl | 10, _ => rfl | 11, _ => rfl | 12, _ => rfl | 13, _ => rfl | 14, _ => rfl | 15, _ => rfl | _ + 18, _ => rfl), ?_⟩; show JQ w 1 fr rd 0 (.slice (some ⟨g', off, none⟩) l.length cap) _ _ o q g' off l _ (d 15) true _; rw [h15]; exact hA)
        | 17, _, ho =>
          cases ho
          refine stepG_of (fun g d hdep => ?_)
          exact step_assign rfl trivial _ rfl (by kernel_rfl) (fun _ h => h)
      intro g d W hall hW
      first | refine hK _ _ ?_ | refine (‹∀ (a : Act) (w : World), Code.wp Tryz.prog _ _ a w → _›) _ _ ?_ | skip
      simp only [finL, List.getD_cons_zero, List.getD_cons_succ, Nat.zero_add, Nat.reduceAdd, List.setIfInBounds_toArray, List.set_cons_zero, List.set_cons_succ]
      rw [hall 15 (by decide), hall 16 (by decide)] at hW
      have hS2 : SR w 1 fr rd 0 (.slice (some ⟨g', off, none⟩) l.length cap) g.2 (P ++ newsB (l.take k) ++ [o, q]) W := ⟨hW.rb, hW.be, hW.sz, (by unfold OwB; rw [cB_app, List.length_append]; exact hW.ow), (by simp; omega)⟩
      have hnt := hW.nt
      clear hW hall d0 d1 d2 d3 d4 d5 d6 d7
      obtain ⟨d0, d1, d2, d3, d4, d5, d6, d7⟩ := hS2.rb.cells
      obtain ⟨x0, x1, x2⟩ := hnt k _ hx
      dsimp only at x0 x1 x2
      clear hat hx hnt v1 v2 v3 v4 v5 v6
      go_wp2_with (go_at_call 21; refine (rnumber_any (w.heap.size + 1) _ _ t 3 _ hS2.sz hS2.ow (by have := hS2.ln; omega) (by omega)).mono ?_; rintro e u3 ⟨b3, rfl, ho3, hb3⟩; have hS3 := hS2.step hb3 ho3 (by simp [numB_len]; omega))
      go_roundw
      case rel => exact ⟨k + 1, by simp, by omega, by rw [HX.out, ← List.append_assoc, ← List.append_assoc]; exact hS3⟩
      case measure => simp [vnatW]; omega
    · have hkk : k = l.length := by omega
      subst hkk
      rw [List.take_length, ← HP.out] at hS
      have hki : ¬ ((l.length : Int) < (l.length : Int)) := by omega
      obtain ⟨ad2, cap2, rfl, hrb⟩ := RdB.own hS.ow.out
      have hsum := rSum_any ad2 cap2 (frm 1 n fr rd.toNat 0 l) wr hrb (frm_byt _ _ _ _ _ _) (by have := hS.ln; omega)
      have hadd := rnumber_any (w.heap.size + 1) _ _ (sumV (frm 1 n fr rd.toNat 0 l)) 4 wr hS.sz hS.ow (by have := hS.ln; omega) (by omega)
      have HB : Hid (byt7 1 n fr rd.toNat 0 l = frm 1 n fr rd.toNat 0 l ++ numB (sumV (frm 1 n fr rd.toNat 0 l)) 4) := rfl
      generalize sumV (frm 1 n fr rd.toNat 0 l) = SV at *
      generalize frm 1 n fr rd.toNat 0 l = FM at *
      have hbe := hS.be
      clear hS hrb HP
      go_wp2_with (first | (go_at_call 23; refine hsum.mono ?_; rintro e u ⟨rfl, hu⟩; rw [hu]; clear hu u) | (go_at_call 21; refine hadd.mono ?_; rintro e u3 ⟨b3, rfl, ho3, hb3⟩))
      go_ret2
      exact ⟨_, rfl, by rw [HB.out]; exact ownsRow_base ho3 (Nat.le_succ _), hbe.trans (hb3.mono (Nat.le_succ _))⟩
set_option maxHeartbeats 4000000 in
set_option maxRecDepth 100000 in
theorem rb2_no (n fr rd : Int) (N : Nat) (hN : N < S128) (ad : Option Addr) (cap : Nat) (l : List (Int × Int × Int)) (w : World) (h : RdN w ad l) (hl : l.length ≤ 6000000000000) (hf : ¬ flt 2 n fr rd N l = 0) : Calls Tryz.prog 7 #[.agg #[.int .i64 2, .int .i64 fr, .int .i64 rd, .int .u32 (wd N 0 : Nat), .int .u32 (wd N 1 : Nat), .int .u32 (wd N 2 : Nat), .int .u32 (wd N 3 : Nat), .slice ad l.length cap], .int .i64 n] w (BO 2 n fr rd N l w) := by
  have hbW := al1' w (.cells #[.int .i64 2, .int .i64 fr, .int .i64 rd, .int .u32 (wd N 0 : Nat), .int .u32 (wd N 1 : Nat), .int .u32 (wd N 2 : Nat), .int .u32 (wd N 3 : Nat), .slice ad l.length cap] 44)
  have hRB : RB (w.alloc (.cells #[.int .i64 2, .int .i64 fr, .int .i64 rd, .int .u32 (wd N 0 : Nat), .int .u32 (wd N 1 : Nat), .int .u32 (wd N 2 : Nat), .int .u32 (wd N 3 : Nat), .slice ad l.length cap] 44)) w.heap.size 2 fr rd N (.slice ad l.length cap) := new_at rfl
  have hrW := h.carry hbW
  obtain ⟨W0, hW0⟩ : ∃ W0, w.alloc (.cells #[.int .i64 2, .int .i64 fr, .int .i64 rd, .int .u32 (wd N 0 : Nat), .int .u32 (wd N 1 : Nat), .int .u32 (wd N 2 : Nat), .int .u32 (wd N 3 : Nat), .slice ad l.length cap] 44) = W0 := ⟨_, rfl⟩
  rw [hW0] at hbW hRB hrW
  obtain ⟨d0, d1, d2, d3, d4, d5, d6, d7⟩ := hRB.cells
  by_cases g1 : n < 1
  · have HF : Hid (flt 2 n fr rd N l = 1) := if_pos (by omega)
    clear hf
    go_enter Tryz.func7, Tryz.ntmps7
    go_wp2
    go_ret2
    exact bo_err HF.out (by decide) hbW
  by_cases g2 : 100 < n
  · have HF : Hid (flt 2 n fr rd N l = 1) := if_pos (by omega)
    clear hf
    go_enter Tryz.func7, Tryz.ntmps7
    go_wp2
    go_ret2
    exact bo_err HF.out (by decide) hbW
  by_cases g3 : fr < 0
  · have HF : Hid (flt 2 n fr rd N l = 72) := (if_neg (by omega)).trans (if_pos (by omega))
    clear hf
    go_enter Tryz.func7, Tryz.ntmps7
    go_wp2
    go_ret2
    exact bo_err HF.out (by decide) hbW
  by_cases g4 : n ≤ fr
  · have HF : Hid (flt 2 n fr rd N l = 72) := (if_neg (by omega)).trans (if_pos (by omega))
    clear hf
    go_enter Tryz.func7, Tryz.ntmps7
    go_wp2
    go_ret2
    exact bo_err HF.out (by decide) hbW
  by_cases g5 : rd < 1
  · have HF : Hid (flt 2 n fr rd N l = 73) := (if_neg (by omega)).trans ((if_neg (by omega)).trans (if_pos ⟨by decide, by omega⟩))
    clear hf
    go_enter Tryz.func7, Tryz.ntmps7
    go_wp2
    go_ret2
    exact bo_err HF.out (by decide) hbW
  by_cases g6 : 1099511627775 < rd
  · have HF : Hid (flt 2 n fr rd N l = 73) := (if_neg (by omega)).trans ((if_neg (by omega)).trans (if_pos ⟨by decide, by omega⟩))
    clear hf
    go_enter Tryz.func7, Tryz.ntmps7
    go_wp2
    go_ret2
    exact bo_err HF.out (by decide) hbW
  have hwi := rWithin_any N hN n
  simp only [sv] at hwi
  by_cases g7 : wthB N n = false
  · have HF : Hid (flt 2 n fr rd N l = 74) := (if_neg (by omega)).trans ((if_neg (by omega)).trans ((if_neg (by omega)).trans (if_pos g7)))
    rw [g7] at hwi
    clear hf
    go_enter Tryz.func7, Tryz.ntmps7
    go_wp2_with (go_at_call 19; (with_reducible refine (hwi _).mono ?_); rintro e u0 ⟨rfl, hb0⟩; have hbU0 := bel2 hbW hb0; have hRB0 := hRB.below hb0; have hr0 := hrW.carry hb0; clear d0 d1 d2 d3 d4 d5 d6 d7; obtain ⟨d0, d1, d2, d3, d4, d5, d6, d7⟩ := hRB0.cells)
    go_ret2
    exact bo_err HF.out (by decide) hbU0
  have g7t : wthB N n = true := by simpa using g7
  rw [g7t] at hwi
  have hri := fun W (hW : RdN W ad l) => rRising_any n ad cap l W hW hl
  have g8 : ris n (-1) l = false := by
    by_cases q : ris n (-1) l = false
    · exact q
    · exact absurd ((if_neg (by omega)).trans ((if_neg (by omega)).trans ((if_neg (by omega)).trans ((if_neg (by rw [g7t]; simp)).trans (if_neg q))))) hf
  have HF : Hid (flt 2 n fr rd N l = 75) := (if_neg (by omega)).trans ((if_neg (by omega)).trans ((if_neg (by omega)).trans ((if_neg (by rw [g7t]; simp)).trans (if_pos g8))))
  rw [g8] at hri
  clear hf
  go_enter Tryz.func7, Tryz.ntmps7
  go_wp2_with (first | (go_at_call 19; (with_reducible refine (hwi _).mono ?_); rintro e u0 ⟨rfl, hb0⟩; have hbU0 := bel2 hbW hb0; have hRB0 := hRB.below hb0; have hr0 := hrW.carry hb0; clear d0 d1 d2 d3 d4 d5 d6 d7; obtain ⟨d0, d1, d2, d3, d4, d5, d6, d7⟩ := hRB0.cells) | (go_at_call 20; (with_reducible refine (hri _ hr0).mono ?_); rintro e u1 ⟨rfl, hb1⟩; have hbU1 := bel2 hbU0 hb1))
  go_ret2
  exact bo_err HF.out (by decide) hbU1
set_option maxHeartbeats 8000000 in
set_option maxRecDepth 100000 in
theorem rb2_ok (n fr : Nat) (rd : Int) (N : Nat) (hN : N < S128) (ad : Option Addr) (cap : Nat) (l : List (Int × Int × Int)) (w : World) (h : RdN w ad l) (hf : flt 2 n fr rd N l = 0) : Calls Tryz.prog 7 #[.agg #[.int .i64 2, .int .i64 fr, .int .i64 rd, .int .u32 (wd N 0 : Nat), .int .u32 (wd N 1 : Nat), .int .u32 (wd N 2 : Nat), .int .u32 (wd N 3 : Nat), .slice ad l.length cap], .int .i64 (n : Int)] w fun e w' => ∃ b, e = .returned (.tuple #[b, .int .i64 0]) ∧ OwB w' w.heap.size b (byt7 2 n fr rd.toNat N l) ∧ Below w.heap.size w w' := by
  have hmx : Tryz.prog.follows .mixedOrders = true := by kernel_rfl
  obtain ⟨hn, hfr, hrd, hwt, hri⟩ := flt_0 hf
  have hlen := ris_len n l (-1) (by omega) (by omega) hri
  have hbW := al1' w (.cells #[.int .i64 2, .int .i64 fr, .int .i64 rd, .int .u32 (wd N 0 : Nat), .int .u32 (wd N 1 : Nat), .int .u32 (wd N 2 : Nat), .int .u32 (wd N 3 : Nat), .slice ad l.length cap] 44)
  have hRB : RB (w.alloc (.cells #[.int .i64 2, .int .i64 fr, .int .i64 rd, .int .u32 (wd N 0 : Nat), .int .u32 (wd N 1 : Nat), .int .u32 (wd N 2 : Nat), .int .u32 (wd N 3 : Nat), .slice ad l.length cap] 44)) w.heap.size 2 fr rd N (.slice ad l.length cap) := new_at rfl
  have hrW := h.carry hbW
  obtain ⟨W0, hW0⟩ : ∃ W0, w.alloc (.cells #[.int .i64 2, .int .i64 fr, .int .i64 rd, .int .u32 (wd N 0 : Nat), .int .u32 (wd N 1 : Nat), .int .u32 (wd N 2 : Nat), .int .u32 (wd N 3 : Nat), .slice ad l.length cap] 44) = W0 := ⟨_, rfl⟩
  rw [hW0] at hbW hRB hrW
  obtain ⟨d0, d1, d2, d3, d4, d5, d6, d7⟩ := hRB.cells
  have hriC := fun W (hW : RdN W ad l) => rRising_any n ad cap l W hW (by omega)
  rw [hri] at hriC
  have hwi := rWithin_any N hN n
  rw [hwt] at hwi
  simp only [sv] at hwi
  have hNn : N < 2 ^ n := wth_mod (by omega) hwt
  have hhs : ∀ (k i : Nat) (W : World), Calls Tryz.prog 22 #[.agg #[.int .u32 (wd N 0 : Nat), .int .u32 (wd N 1 : Nat), .int .u32 (wd N 2 : Nat), .int .u32 (wd N 3 : Nat)], .int .i64 (8 * (k : Int) + (i : Int))] W fun e w' => e = .returned (.bool (N.testBit (8 * k + i))) ∧ Below W.heap.size W w' := fun k i W => by
    have := rHas_any N (8 * (k : Int) + (i : Int)) W
    have e : hasB N (8 * (k : Int) + (i : Int)) = N.testBit (8 * k + i) := by
      unfold hasB
      rw [show (8 * (k : Int) + (i : Int)).toNat = 8 * k + i by omega]
      by_cases hk : 8 * k + i < 100
      · rw [decide_eq_true (show 0 ≤ 8 * (k : Int) + (i : Int) ∧ 8 * (k : Int) + (i : Int) < 100 by omega), Bool.true_and]
      · rw [decide_eq_false (show ¬ (0 ≤ 8 * (k : Int) + (i : Int) ∧ 8 * (k : Int) + (i : Int) < 100) by omega), Bool.false_and]
        exact (Nat.testBit_lt_two_pow (Nat.lt_of_lt_of_le hNn (Nat.pow_le_pow_right (by decide) (by omega)))).symm
    rw [e] at this
    simpa only [sv] using this
  obtain ⟨m, hm⟩ : ∃ m, hsz n = m := ⟨_, rfl⟩
  have hmi : ((n : Int) + 7) / 8 = (m : Int) := by unfold hsz at hm; omega
  have hm13 : m ≤ 13 := hm ▸ hsz_le (by omega)
  have hr0 : 0 ≤ rd := by omega
  have har : ∀ (b : Value) (C : List Nat) (u : World), w.heap.size + 1 ≤ u.heap.size → OwB u (w.heap.size + 1) b C → C.length ≤ 100000 → Calls Tryz.prog 21 #[b, .int .i64 rd, .int .i64 5] u fun e w' => ∃ b', e = .returned b' ∧ OwB w' (w.heap.size + 1) b' (C ++ numB rd.toNat 5) ∧ Below (w.heap.size + 1) u w' := fun b C u hb ho hl => by
    have := rnumber_any (w.heap.size + 1) b C rd.toNat 5 u hb ho hl (by omega)
    rw [Int.toNat_of_nonneg hr0] at this
    exact this
  have g5 : ¬ rd < 1 := by omega
  have g6 : ¬ 1099511627775 < rd := by omega
  obtain ⟨ic, hic, hz0, hz1, hz2⟩ := info_partsB
  have hl100 : l.length ≤ 100 := by omega
  have g1 : ¬ (n : Int) < 1 := by omega
  have g2 : ¬ (100 : Int) < (n : Int) := by omega
  have g3 : ¬ (fr : Int) < 0 := by omega
  have g4 : ¬ (n : Int) ≤ (fr : Int) := by omega
  have iN8 : (n : Int) % 256 = (n : Int) := by omega
  have iF8 : (fr : Int) % 256 = (fr : Int) := by omega
  have iL8 : (l.length : Int) % 256 = (l.length : Int) := by omega
  have hB1 := bs1
  have hB2 := bs2
  have hB5 := bs5
  obtain ⟨P, HPl, HP, HQ⟩ : ∃ P : List Nat, P.length ≤ 30 ∧ Hid (frm 2 n fr rd.toNat N l = P ++ newsB l) ∧ Hid (P = [101, 115, 2, n, fr] ++ numB rd.toNat 5 ++ stB N 0 m ++ [l.length]) := by
    refine ⟨[101, 115, 2, n, fr] ++ numB rd.toNat 5 ++ stB N 0 m ++ [l.length], ?_, ?_, rfl⟩
    · simp [numB_len, stB_len]; omega
    · show frm 2 n fr rd.toNat N l = _
      rw [frm, Nat.mod_eq_of_lt (show n < 256 by omega), Nat.mod_eq_of_lt (show fr < 256 by omega), Nat.mod_eq_of_lt (show l.length < 256 by omega)]
      simp [rndB, setB, hm]
  have HL : Hid (RdN w ad l) := h
  have HRI : Hid (ris n (-1) l = true) := hri
  have h13 : l.length + 3 ≤ 103 := by omega
  clear h hwt hri hf hrd hr0 hm hNn
  go_enter Tryz.func7, Tryz.ntmps7
  go_wp2_with (first | (go_at_call 19; (with_reducible refine (hwi _).mono ?_); rintro e u0 ⟨rfl, hb0⟩; have hbU0 := bel2 hbW hb0; have hRB0 := hRB.below hb0; have hr0 := hrW.carry hb0; clear d0 d1 d2 d3 d4 d5 d6 d7; obtain ⟨d0, d1, d2, d3, d4, d5, d6, d7⟩ := hRB0.cells) | (go_at_call 20; (with_reducible refine (hriC _ hr0).mono ?_); rintro e u1 ⟨rfl, hb1⟩; have hbU1 := bel2 hbU0 hb1; have hRB1 := hRB0.below hb1; have hS1 : SR w 2 fr rd N (.slice ad l.length cap) (.slice (some ⟨u1.heap.size, 0, none⟩) 5 5) [101, 115, 2, n, fr] (u1.alloc (.cells #[.int .u8 101, .int .u8 115, .int .u8 2, .int .u8 (n : Int), .int .u8 (fr : Int)] 5)) := ⟨hRB1.below (al1' u1 _), bel2 hbU1 (al1' u1 _), (by have := lt_at hRB1; simp; omega), World.ownsRow_lit (base := w.heap.size + 1) (e := 5) (size := 1) u1 #[.int .u8 101, .int .u8 115, .int .u8 2, .int .u8 (n : Int), .int .u8 (fr : Int)] 5 (lt_at hRB1) (by decide) (by simp), (by simp)⟩; clear d0 d1 d2 d3 d4 d5 d6 d7; obtain ⟨d0, d1, d2, d3, d4, d5, d6, d7⟩ := hRB1.cells; obtain ⟨f0, f1, f2, f3, f4, f5, f6, f7⟩ := hS1.rb.cells) | (go_at_call 21; (with_reducible refine (har _ ([101, 115, 2, n, fr]) _ hS1.sz hS1.ow (by simp)).mono ?_); rintro e u4 ⟨b4, rfl, ho4, hb4⟩; have hS4 : SR w 2 fr rd N (.slice ad l.length cap) b4 ([101, 115, 2, n, fr] ++ numB rd.toNat 5) u4 := hS1.step hb4 ho4 (by simp [numB_len]); clear d0 d1 d2 d3 d4 d5 d6 d7; obtain ⟨d0, d1, d2, d3, d4, d5, d6, d7⟩ := hS4.rb.cells))
  obtain ⟨C0, hC0, HC0⟩ : ∃ C0 : List Nat, C0.length = 10 ∧ Hid (C0 = [101, 115, 2, n, fr] ++ numB rd.toNat 5) := ⟨_, by simp [numB_len], rfl⟩
  have hS5 : SR w 2 fr rd N (.slice ad l.length cap) b4 C0 u4 := HC0.out ▸ hS4
  clear hS4 hS1 hRB hbW hrW hriC hwi har hRB0 hr0 hRB1 d0 d1 d2 d3 d4 d5 d6 d7
  go_loopw [6, 7] (fun b i wz => ∃ (k : Nat) (C : List Nat), i = .int .i64 k ∧ k ≤ m ∧ Hid (C.length = 10 + k) ∧ Hid (C ++ stB N k (m - k) = C0 ++ stB N 0 m) ∧ SR w 2 fr rd N (.slice ad l.length cap) b C wz) (fun _ i _ => m - vnatW i)
  case atStart => exact ⟨0, C0, rfl, Nat.zero_le _, hC0, rfl, hS5⟩
  case round =>
    obtain ⟨k, C, rfl, hk, HCL, HC, hS⟩ := hrel
    have hsw := hS.sz
    obtain ⟨d0, d1, d2, d3, d4, d5, d6, d7⟩ := hS.rb.cells
    by_cases hkl : k < m
    · have hki : (k : Int) < (m : Int) := by omega
      go_wp2
      go_loopw [8, 9] (fun v i wz => ∃ (x j : Nat), v = .int .i64 x ∧ i = .int .i64 j ∧ j ≤ 8 ∧ x < 256 ∧ Hid (x = N / 2 ^ (8 * k) % 2 ^ j) ∧ SR w 2 fr rd N (.slice ad l.length cap) u6 C wz) (fun _ i _ => 8 - vnatW i)
      case atStart => exact ⟨0, 0, rfl, rfl, by omega, by omega, (by show 0 = _; rw [Nat.pow_zero, Nat.mod_one]), hS⟩
      case round =>
        obtain ⟨x, j, rfl, rfl, hj, hx, HX, hSi⟩ := hrel
        clear hmi
        clear d0 d1 d2 d3 d4 d5 d6 d7
        obtain ⟨d0, d1, d2, d3, d4, d5, d6, d7⟩ := hSi.rb.cells
        by_cases hjl : j < 8
        · have hji : (j : Int) < 8 := by omega
          have hc := hhs k j
          have hpb := pre_bits (N := N / 2 ^ (8 * k)) (i := j)
          rw [← HX.out, Nat.testBit_div_two_pow, Nat.add_comm j (8 * k)] at hpb
          have hlt : N / 2 ^ (8 * k) % 2 ^ (j + 1) < 256 := Nat.lt_of_lt_of_le (Nat.mod_lt _ (Nat.two_pow_pos _)) (Nat.pow_le_pow_right (n := 2) (by decide) (show j + 1 ≤ 8 by omega))
          cases hb : N.testBit (8 * k + j) with
          | false =>
            rw [hb] at hc hpb
            have HX2 : Hid (x = N / 2 ^ (8 * k) % 2 ^ (j + 1)) := (by show x = _; simpa using hpb)
            clear hpb hlt HX hb
            go_wp2_with (go_at_call 22; (with_reducible refine (hc _).mono ?_); rintro e ui ⟨rfl, hbi⟩; have hSu := hSi.below hbi)
            go_roundw
            case rel => exact ⟨x, j + 1, rfl, by simp, by omega, hx, HX2, hSu⟩
            case measure => simp [vnatW]; omega
          | true =>
            rw [hb] at hc hpb
            obtain ⟨p, hp⟩ : ∃ p, 2 ^ j = p := ⟨_, rfl⟩
            rw [if_pos rfl, hp] at hpb
            have hpi : (2 : Int) ^ j = (p : Int) := by rw [← hp]; simp
            have hp256 : p ≤ 256 := by rw [← hp]; exact Nat.pow_le_pow_right (n := 2) (by decide) (show j ≤ 8 by omega)
            have hxp : x + p < 256 := by omega
            have HX2 : Hid (x + p = N / 2 ^ (8 * k) % 2 ^ (j + 1)) := hpb
            clear hpb hlt HX hb hp
            go_wp2_with (go_at_call 22; (with_reducible refine (hc _).mono ?_); rintro e ui ⟨rfl, hbi⟩; have hSu := hSi.below hbi)
            go_roundw
            case rel => exact ⟨x + p, j + 1, by simp, by simp, by omega, hxp, HX2, hSu⟩
            case measure => simp [vnatW]; omega
        · have hj8 : j = 8 := by omega
          subst hj8
          have HE : Hid (x = N / 2 ^ (8 * k) % 256) := HX
          obtain ⟨j, hj'⟩ : ∃ j, m - k = j + 1 := ⟨m - k - 1, by omega⟩
          have HN : Hid ((C ++ [x]) ++ stB N (k + 1) (m - (k + 1)) = C0 ++ stB N 0 m) := by
            show (C ++ [x]) ++ stB N (k + 1) (m - (k + 1)) = C0 ++ stB N 0 m
            rw [← HC.out, hj', stB, List.append_assoc, HE.out, show m - (k + 1) = j by omega]
            rfl
          have ix8 : (x : Int) % 256 = (x : Int) := by omega
          have HC2 : Hid (C.length = 10 + k) := HCL
          clear HX HE hj' HC HCL
          go_wp2_with (at_builtin; refine wpList_append_own_at _ rfl _ _ 46 rfl (w.heap.size + 1) 5 ic _ 1 1 Tryz.underlying46 hic hz0 hz1 hz2 rfl (by decide) _ (C).length (cB (C)) rfl (World.ownsRow.alloc (OwB.out hSi.ow) _) ⟨wr.heap.size, 0, none⟩ 1 1 [_] rfl rfl (rowN _ #[_] _) (by simp [Value.oneCell']) (by have := hSi.ln; unfold maxLen; omega) (by have := hSi.ln; omega) (by have := hSi.sz; first | (simp; omega) | (simp at this ⊢; omega)) ?_; intro b' zx hown' hgrow _ hob; have hSx := SR.app [x] hSi hgrow hown' (by have := HC2.out; simp; omega); clear hown' hgrow hob)
          go_roundw
          case rel => exact ⟨k + 1, C ++ [x], by simp, by omega, (by show (C ++ [x]).length = 10 + (k + 1); have := HC2.out; simp; omega), HN, hSx⟩
          case measure => simp [vnatW]; omega
    · have hkk : k = m := by omega
      subst hkk
      have hki : ¬ ((k : Int) < (k : Int)) := by omega
      have HE : Hid (C = C0 ++ stB N 0 k) := by have := HC.out; rw [Nat.sub_self, stB, List.append_nil] at this; exact this
      have HCL' : Hid (C.length = 10 + k) := HCL
      clear HC HCL hS5
      go_wp2_with (at_builtin; refine wpList_append_own_at _ rfl _ _ 46 rfl (w.heap.size + 1) 5 ic _ 1 1 Tryz.underlying46 hic hz0 hz1 hz2 rfl (by decide) _ (C).length (cB (C)) rfl (World.ownsRow.alloc (OwB.out hS.ow) _) ⟨wr.heap.size, 0, none⟩ 1 1 [_] rfl rfl (rowN _ #[_] _) (by simp [Value.oneCell']) (by have := hS.ln; unfold maxLen; omega) (by have := hS.ln; omega) (by have := hS.sz; first | (simp; omega) | (simp at this ⊢; omega)) ?_; intro b' z6 hown' hgrow _ hob; have hS6 := SR.app [l.length] hS hgrow hown' (by have := HCL'.out; simp; omega); clear hown' hgrow hob; obtain ⟨d0, d1, d2, d3, d4, d5, d6, d7⟩ := hS6.rb.cells)
      have hS7 : SR w 2 fr rd N (.slice ad l.length cap) b' P z6 := by
        have := hS6
        rw [HE.out, HC0.out] at this
        exact HQ.out ▸ this
      clear hS6 hS HQ
      go_loopw [6, 10] (fun b i wz => ∃ (k : Nat), i = .int .i64 k ∧ k ≤ l.length ∧ SR w 2 fr rd N (.slice ad l.length cap) b (P ++ newsB (l.take k)) wz) (fun _ i _ => l.length - vnatW i)
      case atStart => exact ⟨0, rfl, Nat.zero_le _, by simpa [newsB] using hS7⟩
      case round =>
        obtain ⟨k, rfl, hk, hS⟩ := hrel
        clear hS7 d0 d1 d2 d3 d4 d5 d6 d7
        obtain ⟨d0, d1, d2, d3, d4, d5, d6, d7⟩ := hS.rb.cells
        have hsw := hS.sz
        by_cases hkl : k < l.length
        · have hki : (k : Int) < (l.length : Int) := by omega
          obtain ⟨⟨o, t, q⟩, hx⟩ : ∃ x, l[k]? = some x := ⟨_, List.getElem?_eq_getElem hkl⟩
          obtain ⟨v1, v2, v3, v4, v5, v6⟩ := vl_bounds (ris_get HRI.out hx)
          dsimp only at v1 v2 v3 v4 v5 v6
          obtain ⟨o, rfl⟩ := Int.eq_ofNat_of_zero_le v1
          obtain ⟨t, rfl⟩ := Int.eq_ofNat_of_zero_le v3
          obtain ⟨q, rfl⟩ := Int.eq_ofNat_of_zero_le (show 0 ≤ q by omega)
          obtain ⟨g', off, rfl, hgl, hat⟩ := HL.out (fun e => by subst e; simp at hkl)
          have ho256 : o < 256 := by omega
          have hq256 : q < 256 := by omega
          have HX : Hid (newsB (l.take (k + 1)) = newsB (l.take k) ++ [o, q] ++ numB t 3) := by
            have := newsB_step l k _ _ _ hx
            rw [Int.toNat_natCast, Int.toNat_natCast, Int.toNat_natCast, Nat.mod_eq_of_lt (show o < 256 by omega), Nat.mod_eq_of_lt (show q < 256 by omega)] at this
            exact this
          have hlk : (newsB (l.take k)).length ≤ 5 * k := by rw [newsB_len, List.length_take]; omega
          go_wp2
          refine wp_region_any hmx ?_
          refine wpAny_tabG (G := (Nat × Value)) (fun g i__ => ([u6, (.pointer (some ⟨w.heap.size, 7, none⟩)), (.slice (some ⟨g', off, none⟩) l.length cap), (.int .i64 (k : Int)), (.pointer (some ⟨g', off + k * 3, none⟩)), (.pointer (some ⟨g', off + k * 3, none⟩)), (.int .i64 (o : Int)), (.int .u8 (o : Int)), (.pointer (some ⟨w.heap.size, 7, none⟩)), (.slice (some ⟨g', off, none⟩) l.length cap), (.int .i64 (k : Int)), (.pointer (some ⟨g', off + k * 3, none⟩)), (.pointer (some ⟨g', off + k * 3 + 2, none⟩)), (.int .i64 (q : Int)), (.int .u8 (q : Int)), (.slice (some ⟨g.1, 0, none⟩) 2 2), g.2, g.2] : List Value).getD i__ undef) (fun g d W => JQ w 2 fr rd N (.slice (some ⟨g', off, none⟩) l.length cap) u6 (P ++ newsB (l.take k)) o q g' off l g (d 15) (d 16) W) (by kernel_rfl) ((0, undef)) (show JQ w 2 fr rd N (.slice (some ⟨g', off, none⟩) l.length cap) u6 (P ++ newsB (l.take k)) o q g' off l (0, undef) false false _ from ⟨hS.rb.below (Below.refl _ _).drew, hS.be.trans (Below.refl _ _).drew, hS.sz, hat.carry hgl (hS.be.trans (Below.refl _ _).drew), hS.ow.out, fun e => by cases e⟩) ?step4 ?fin4
          case step4 =>
            intro i o ho
            have hi : i < 18 := getElem?_lt ho
            match i, hi, ho with
            | 0, _, ho =>
              cases ho
              refine stepG_of (fun g d hdep => ?_)
              exact step_move rfl trivial _ rfl (by kernel_rfl)
            | 1, _, ho =>
              cases ho
              refine stepG_of (fun g d hdep => ?_)
              exact step_fieldAddr rfl trivial _ _ _ _ rfl rfl (fun w hw => field_rb _ w)
            | 2, _, ho =>
              cases ho
              refine stepG_of (fun g d hdep => ?_)
              exact step_load rfl trivial _ _ _ rfl rfl (fun w hw => load_rb hw.rb)
            | 3, _, ho =>
              cases ho
              refine stepG_of (fun g d hdep => ?_)
              exact step_move rfl trivial _ rfl (by kernel_rfl)
            | 4, _, ho =>
              cases ho
              refine stepG_of (fun g d hdep => ?_)
              exact step_indexAddr rfl trivial _ _ _ _ _ rfl rfl rfl (fun w hw => idx_n g' off l.length cap k hkl w)
            | 5, _, ho =>
              cases ho
              refine stepG_of (fun g d hdep => ?_)
              exact step_fieldAddr rfl trivial _ _ _ _ rfl rfl (fun w hw => field_at w _ _)
            | 6, _, ho =>
              cases ho
              refine stepG_of (fun g d hdep => ?_)
              exact step_load rfl trivial _ _ _ rfl rfl (fun w hw => load_of hw.nt hx)
            | 7, _, ho =>
              cases ho
              refine stepG_of (fun g d hdep => ?_)
              exact step_convert rfl trivial _ _ _ _ rfl rfl (fun w hw => conv8 o ho256 w)
            | 8, _, ho =>
              cases ho
              refine stepG_of (fun g d hdep => ?_)
              exact step_fieldAddr rfl trivial _ _ _ _ rfl rfl (fun w hw => field_rb _ w)
            | 9, _, ho =>
              cases ho
              refine stepG_of (fun g d hdep => ?_)
              exact step_load rfl trivial _ _ _ rfl rfl (fun w hw => load_rb hw.rb)
            | 10, _, ho =>
              cases ho
              refine stepG_of (fun g d hdep => ?_)
              exact step_move rfl trivial _ rfl (by kernel_rfl)
            | 11, _, ho =>
              cases ho
              refine stepG_of (fun g d hdep => ?_)
              exact step_indexAddr rfl trivial _ _ _ _ _ rfl rfl rfl (fun w hw => idx_n g' off l.length cap k hkl w)
            | 12, _, ho =>
              cases ho
              refine stepG_of (fun g d hdep => ?_)
              exact step_fieldAddr rfl trivial _ _ _ _ rfl rfl (fun w hw => field_nt2 _ _ w)
            | 13, _, ho =>
              cases ho
              refine stepG_of (fun g d hdep => ?_)
              exact step_load rfl trivial _ _ _ rfl rfl (fun w hw => load_kd hw.nt hx)
            | 14, _, ho =>
              cases ho
              refine stepG_of (fun g d hdep => ?_)
              exact step_convert rfl trivial _ _ _ _ rfl rfl (fun w hw => conv8 q hq256 w)
            | 15, _, ho =>
              cases ho
              exact stepG_build2 rfl rfl _ _ _ (.int .u8 (o : Int)) (.int .u8 (q : Int)) rfl (fun g => by kernel_rfl) (fun g => by kernel_rfl) (fun g d W hJ hun hcl => by have h16 : d 16 = false := (by cases h : d 16 with | false => rfl | true => exact absurd (hcl 16 _ rfl h 15 (by kernel_rfl)) (by rw [hun]; simp)); have hJ' := hJ; rw [hun, h16] at hJ'; refine ⟨(W.heap.size, g.2), _, bs2 _ _ _, (fun j hj => match j, hj with | 15, hj => (by rw [hj] at hun; cases hun)  | 0, _ => rfl | 1, _ => rfl | 2, _ => rfl | 3, _ => rfl | 4, _ => rfl | 5, _ => rfl | 6, _ => rfl | 7, _ => rfl | 8, _ => rfl | 9, _ => rfl | 10, _ => rfl | 11, _ => rfl | 12, _ => rfl | 13, _ => rfl | 14, _ => rfl | 16, _ => rfl | 17, _ => rfl | _ + 18, _ => rfl), ?_⟩; show JQ w 2 fr rd N (.slice (some ⟨g', off, none⟩) l.length cap) _ _ o q g' off l _ true (d 16) _; rw [h16]; exact hJ'.build hgl)
            | 16, _, ho =>
              cases ho
              exact stepG_append rfl rfl _ _ _ (fun _ => u6) (fun g => .slice (some ⟨g.1, 0, none⟩) 2 2) rfl (fun g => by kernel_rfl) (fun g => by kernel_rfl) (fun g d W hJ hun hdep hcl => by have h15 : d 15 = true := hdep 15 (by kernel_rfl); have hJ' := hJ; rw [h15, hun] at hJ'; obtain ⟨v', W', hr, hA⟩ := hJ'.app hgl 46 (by have := hS.ln; simpa using this); refine ⟨(g.1, v'), W', hr, (fun j hj => match j, hj with | 16, hj => (by rw [hj] at hun; cases hun) | 17, hj => absurd ((hcl 17 _ rfl hj 16 (by kernel_rfl))) (by rw [hun]; simp) | 0, _ => rfl | 1, _ => rfl | 2, _ => rfl | 3, _ => rfl | 4, _ => rfl | 5, _ => rfl | 6, _ => rfl | 7, _ => rfl | 8, _ => rfl | 9, _ => rfl | 10, _ => rfl | 11, _ => rfl | 12, _ => rfl | 13, _ => rfl | 14, _ => rfl | 15, _ => rfl | _ + 18, _ => rfl), ?_⟩; show JQ w 2 fr rd N (.slice (some ⟨g', off, none⟩) l.length cap) _ _ o q g' off l _ (d 15) true _; rw [h15]; exact hA)
            | 17, _, ho =>
              cases ho
              refine stepG_of (fun g d hdep => ?_)
              exact step_assign rfl trivial _ rfl (by kernel_rfl) (fun _ h => h)
          intro g d W hall hW
          first | refine hK _ _ ?_ | refine (‹∀ (a : Act) (w : World), Code.wp Tryz.prog _ _ a w → _›) _ _ ?_ | skip
          simp only [finL, List.getD_cons_zero, List.getD_cons_succ, Nat.zero_add, Nat.reduceAdd, List.setIfInBounds_toArray, List.set_cons_zero, List.set_cons_succ]
          rw [hall 15 (by decide), hall 16 (by decide)] at hW
          have hS2 : SR w 2 fr rd N (.slice (some ⟨g', off, none⟩) l.length cap) g.2 (P ++ newsB (l.take k) ++ [o, q]) W := ⟨hW.rb, hW.be, hW.sz, (by unfold OwB; rw [cB_app, List.length_append]; exact hW.ow), (by simp; omega)⟩
          have hnt := hW.nt
          clear hW hall d0 d1 d2 d3 d4 d5 d6 d7
          obtain ⟨d0, d1, d2, d3, d4, d5, d6, d7⟩ := hS2.rb.cells
          obtain ⟨x0, x1, x2⟩ := hnt k _ hx
          dsimp only at x0 x1 x2
          clear hat hx hnt v1 v2 v3 v4 v5 v6
          go_wp2_with (go_at_call 21; refine (rnumber_any (w.heap.size + 1) _ _ t 3 _ hS2.sz hS2.ow (by have := hS2.ln; omega) (by omega)).mono ?_; rintro e u3 ⟨b3, rfl, ho3, hb3⟩; have hS3 := hS2.step hb3 ho3 (by simp [numB_len]; omega))
          go_roundw
          case rel => exact ⟨k + 1, by simp, by omega, by rw [HX.out, ← List.append_assoc, ← List.append_assoc]; exact hS3⟩
          case measure => simp [vnatW]; omega
        · have hkk : k = l.length := by omega
          subst hkk
          rw [List.take_length, ← HP.out] at hS
          have hki : ¬ ((l.length : Int) < (l.length : Int)) := by omega
          obtain ⟨ad2, cap2, rfl, hrb⟩ := RdB.own hS.ow.out
          have hsum := rSum_any ad2 cap2 (frm 2 n fr rd.toNat N l) wr hrb (frm_byt _ _ _ _ _ _) (by have := hS.ln; omega)
          have hadd := rnumber_any (w.heap.size + 1) _ _ (sumV (frm 2 n fr rd.toNat N l)) 4 wr hS.sz hS.ow (by have := hS.ln; omega) (by omega)
          have HB : Hid (byt7 2 n fr rd.toNat N l = frm 2 n fr rd.toNat N l ++ numB (sumV (frm 2 n fr rd.toNat N l)) 4) := rfl
          generalize sumV (frm 2 n fr rd.toNat N l) = SV at *
          generalize frm 2 n fr rd.toNat N l = FM at *
          have hbe := hS.be
          clear hS hrb HP
          go_wp2_with (first | (go_at_call 23; refine hsum.mono ?_; rintro e u ⟨rfl, hu⟩; rw [hu]; clear hu u) | (go_at_call 21; refine hadd.mono ?_; rintro e u3 ⟨b3, rfl, ho3, hb3⟩))
          go_ret2
          exact ⟨_, rfl, by rw [HB.out]; exact ownsRow_base ho3 (Nat.le_succ _), hbe.trans (hb3.mono (Nat.le_succ _))⟩
theorem bo_good {kd n fr : Nat} {rd : Int} {N : Nat} {l : List (Int × Int × Int)} {w w' : World} {e : Ending} (hf : flt kd n fr rd N l = 0) (h : ∃ b, e = .returned (.tuple #[b, .int .i64 0]) ∧ OwB w' w.heap.size b (byt7 kd n fr rd.toNat N l) ∧ Below w.heap.size w w') : BO kd n fr rd N l w e w' := by
  obtain ⟨b, rfl, h1, h2⟩ := h
  refine ⟨b, by rw [hf], ?_, h2⟩
  rw [fb7, if_pos hf]
  exact h1
theorem rbytes_any (kd : Nat) (hk : 1 ≤ kd ∧ kd ≤ 3) (n fr r : Int) (N : Nat) (hN : N < S128) (h3 : kd = 3 → r = 0) (h2 : kd ≠ 2 → N = 0) (ad : Option Addr) (cap : Nat) (l : List (Int × Int × Int)) (w : World) (h : RdN w ad l) (hl : l.length ≤ 6000000000000) : Calls Tryz.prog 7 #[rnv kd fr r N (.slice ad l.length cap), .int .i64 n] w (BO kd n fr r N l w) := by
  unfold rnv
  by_cases hf : flt kd n fr r N l = 0
  · obtain ⟨hn, hfr, _⟩ := flt_0 hf
    obtain ⟨n, rfl⟩ := Int.eq_ofNat_of_zero_le (show 0 ≤ n by omega)
    obtain ⟨fr, rfl⟩ := Int.eq_ofNat_of_zero_le hfr.1
    rcases (show kd = 1 ∨ kd = 2 ∨ kd = 3 by omega) with rfl | rfl | rfl
    · obtain rfl : N = 0 := h2 (by decide)
      exact (rb1_ok n fr r ad cap l w h hf).mono (fun e w' q => bo_good hf q)
    · exact (rb2_ok n fr r N hN ad cap l w h hf).mono (fun e w' q => bo_good hf q)
    · obtain rfl : N = 0 := h2 (by decide)
      obtain rfl : r = 0 := h3 rfl
      exact (rb3_ok n fr ad cap l w h hf).mono (fun e w' q => bo_good hf q)
  · rcases (show kd = 1 ∨ kd = 2 ∨ kd = 3 by omega) with rfl | rfl | rfl
    · obtain rfl : N = 0 := h2 (by decide)
      exact rb1_no n fr r ad cap l w h hl hf
    · exact rb2_no n fr r N hN ad cap l w h hl hf
    · obtain rfl : N = 0 := h2 (by decide)
      obtain rfl : r = 0 := h3 rfl
      exact rb3_no n fr ad cap l w h hl hf
end Go.Proofs.YtnomeinppdnhfaaGreat
