/- The document's number (bytes of a number): what it answers; what lies there while its Bytes are made. -/
import Derived.Test.YtnkpohkodkjkfaaGreatDoorJpJ46
import Derived.Test.YtnkpohkodkjkfaaGreatDoorJpJ45
import Derived.Test.YtnkpohkodkjkfaaGreatDoorJpJ40
import Derived.Test.YtnkpohkodkjkfaaGreatDoorJpJ42
import Derived.Test.YtnkpohkodkjkfaaGreatDoorJpJ43
import Derived.Test.YtnkpohkodkjkfaaGreatDoorJpJ44
set_option maxHeartbeats 40000000
set_option maxRecDepth 100000
set_option linter.unusedVariables false
namespace Go.Proofs.YtnkpohkodkjkfaaGreatDoor
open Go.RowKit Go.Shelf

set_option maxHeartbeats 2000000 in
set_option maxRecDepth 100000 in
theorem rnumber_any (base : Nat) (b0 : Value) (L : List Nat) (v m : Nat) (w : World) (hbase : base ≤ w.heap.size) (h : OwB w base b0 L) (hL : L.length ≤ 100000) (hm : m ≤ 8) : Calls Tryz.prog 64 #[b0, .int .i64 (v : Int), .int .i64 (m : Int)] w fun e w' => ∃ b', e = .returned b' ∧ OwB w' base b' (L ++ numB v m) ∧ Below base w w' := by
  obtain ⟨ic, hic, hz0, hz1, hz2⟩ := info_partsB
  go_enter Tryz.func64, Tryz.ntmps64
  go_wp2
  go_loopw [0, 7] (fun b i wz => ∃ (z : Int) (j : Nat) (C : List Nat), i = .int .i64 z ∧ Hid (z = (j : Int) - 1) ∧ -1 ≤ z ∧ z ≤ 8 ∧ j ≤ m ∧ C.length ≤ L.length + 8 ∧ Hid (C.length + j = L.length + m) ∧ Hid (C ++ numB v j = L ++ numB v m) ∧ OwB wz base b C ∧ Below base w wz) (fun _ i _ => match i with | .int _ z => (z + 1).toNat | _ => 0)
  case atStart => exact ⟨(m : Int) - 1, m, L, rfl, rfl, by omega, by omega, Nat.le_refl _, by omega, rfl, rfl, h, Below.refl _ _⟩
  case round =>
    obtain ⟨z, j, C, rfl, HZ, hz, hz8, hj, hC, HCL, HC, hrow, hbw⟩ := hrel
    have hsw := hbw.size
    by_cases hkl : 0 ≤ z
    · obtain ⟨q, rfl⟩ := Int.eq_ofNat_of_zero_le hkl
      have hjq : j = q + 1 := by have := HZ.out; omega
      subst hjq
      have HN : Hid ((C ++ [v / 2 ^ (8 * q) % 256]) ++ numB v q = L ++ numB v m) := by
        show (C ++ [v / 2 ^ (8 * q) % 256]) ++ numB v q = L ++ numB v m
        rw [← HC.out, numB, List.append_assoc]
        rfl
      obtain ⟨E, hE⟩ : ∃ E : Nat, 8 * q = E := ⟨_, rfl⟩
      rw [hE] at HN
      have h8 : (8 : Int) * (q : Int) = (E : Int) := by omega
      have hE64 : E ≤ 64 := by omega
      have hby := byte_of v E
      obtain ⟨D, hD⟩ : ∃ D : Nat, D = v / 2 ^ E % 256 := ⟨_, rfl⟩
      rw [← hD] at hby HN
      clear hE
      have hl2 : C.length ≤ 100008 := by omega
      have HC2 : Hid (C.length + (q + 1) = L.length + m) := HCL
      clear hD HCL
      unfold OwB at hrow
      clear h HC HZ
      have hbs := bs1
      go_wp2_with (at_builtin; refine wpList_append_own _ rfl _ _ 47 rfl base 5 ic _ 1 1 Tryz.underlying47 hic hz0 hz1 hz2 rfl (by decide) _ C.length (cB C) rfl (hrow.alloc _) ⟨wr.heap.size, 0, none⟩ 1 1 [_] rfl rfl (rowN _ #[_] _) (by simp [Value.oneCell']) (by unfold maxLen; omega) (by omega) (by simp; omega) ?_; intro v' w2 hown' hgrow _)
      go_roundw
      case rel =>
        refine ⟨(q : Int) - 1, q, C ++ [D], by simp, rfl, by omega, by omega, by omega, ?_, ?_, HN, ?_, (hbw.alloc (by omega) _).grown hgrow (by simp; omega) (fun q e => own_block hrow q e)⟩
        · have := HC2.out; simp; omega
        · show (C ++ [D]).length + q = L.length + m
          have := HC2.out; simp; omega
        · unfold OwB
          rw [cB_app, List.length_append]
          exact hown'
      case measure => simp
    · have hj0 : j = 0 := by have := HZ.out; omega
      subst hj0
      have HE : Hid (C = L ++ numB v m) := by have := HC.out; rw [numB, List.append_nil] at this; exact this
      clear HC HZ HCL
      go_wp2
      go_ret
      exact ⟨_, rfl, HE.out ▸ hrow, hbw⟩
theorem bs5 (W : World) (a b c d e : Int) : (Instr.buildSlice 47 5 #[(0, .int .u8 a), (1, .int .u8 b), (2, .int .u8 c), (3, .int .u8 d), (4, .int .u8 e)]).run Tryz.prog W = .ok (.slice (some ⟨W.heap.size, 0, none⟩) 5 5) (W.alloc (.cells #[.int .u8 a, .int .u8 b, .int .u8 c, .int .u8 d, .int .u8 e] 5)) := by
  go_simp
/-- What lies there while the document's form is made. -/
structure SR (w : World) (kd : Int) (fr : Nat) (rd : Int) (N : Nat) (v b : Value) (C : List Nat) (u : World) : Prop where
  rb : RB u w.heap.size kd fr rd N v
  be : Below w.heap.size w u
  sz : w.heap.size + 1 ≤ u.heap.size
  ow : OwB u (w.heap.size + 1) b C
  ln : C.length ≤ 600
theorem RB.lower {W W' : World} {b B : Nat} {k f r : Int} {N : Nat} {v : Value} (h : RB W b k f r N v) (hb : Below B W W') (hB : b < B) : RB W' b k f r N v := (hb.block b hB).trans h
theorem SR.step {w : World} {kd : Int} {fr : Nat} {rd : Int} {N : Nat} {v b : Value} {C : List Nat} {u u' : World} {b' : Value} {C' : List Nat} (h : SR w kd fr rd N v b C u) (hb : Below (w.heap.size + 1) u u') (ho : OwB u' (w.heap.size + 1) b' C') (hl : C'.length ≤ 600) : SR w kd fr rd N v b' C' u' :=
  ⟨h.rb.lower hb (Nat.lt_succ_self _), h.be.trans (hb.mono (Nat.le_succ _)), Nat.le_trans h.sz hb.size, ho, hl⟩
theorem SR.below {w : World} {kd : Int} {fr : Nat} {rd : Int} {N : Nat} {v b : Value} {C : List Nat} {u u' : World} (h : SR w kd fr rd N v b C u) (hb : Below u.heap.size u u') : SR w kd fr rd N v b C u' :=
  h.step (hb.mono h.sz) (h.ow.below hb) h.ln
theorem SR.app {w : World} {kd : Int} {fr : Nat} {rd : Int} {N : Nat} {v b : Value} {C : List Nat} {u u' : World} {b' : Value} {o : Obj} (xs : List Nat) (h : SR w kd fr rd N v b C u) (hg : (u.alloc o).grownBy u' b.ownBlock) (ho : u'.ownsRow (w.heap.size + 1) 5 1 b' (C.length + xs.length) (cB C ++ cB xs)) (hl : (C ++ xs).length ≤ 600) : SR w kd fr rd N v b' (C ++ xs) u' := by
  refine h.step (((Below.refl _ u).alloc h.sz o).grown hg (by simp; have := h.sz; omega) (fun k e => own_block h.ow k e)) ?_ hl
  unfold OwB
  rw [cB_app, List.length_append]
  exact ho
theorem load_rb {W : World} {p : Nat} {kd fr rd : Int} {N : Nat} {a : Option Addr} {n c : Nat} (h : RB W p kd fr rd N (.slice a n c)) : (Instr.loadAt 25 (.pointer (some ⟨p, 7, none⟩))).run Tryz.prog W = .ok (.slice a n c) W := by
  have c0 := h.cells.2.2.2.2.2.2.2
  go_simp
theorem field_rb (p : Nat) (W : World) : (Instr.fieldAt 27 (.pointer (some ⟨p, 0, none⟩)) 4).run Tryz.prog W = .ok (.pointer (some ⟨p, 7, none⟩)) W := by go_simp
theorem field_nt2 (b off : Nat) (W : World) : (Instr.fieldAt 99 (.pointer (some ⟨b, off, none⟩)) 2).run Tryz.prog W = .ok (.pointer (some ⟨b, off + 2, none⟩)) W := by go_simp
theorem load_kd {W : World} {b off : Nat} {l : List (Int × Int × Int)} (h : NtsAt W b off l) {k : Nat} {o t q : Int} (hx : l[k]? = some (o, t, q)) : (Instr.loadAt 3 (.pointer (some ⟨b, off + k * 3 + 2, none⟩))).run Tryz.prog W = .ok (.int .i64 q) W := by
  have := (h k _ hx).2.2
  go_simp
theorem conv8 (z : Nat) (h : z < 256) (w : World) : (convert 3 5 (.int .i64 (z : Int))).run Tryz.prog w = .ok (.int .u8 (z : Int)) w := by
  exact conv_int .u8 (z : Int) (by kernel_rfl) Tryz.underlying5 (by rw [IntKind.wrap_u8']; omega) w
/-- What lies there in the region that lays a notice's first two bytes. -/
structure JQw (w : World) (kd : Int) (fr : Nat) (rd : Int) (N : Nat) (v b : Value) (C : List Nat) (o q gb off : Nat) (l : List (Int × Int × Int)) (g : Nat × Value) (d15 d16 : Bool) (W : World) : Prop where
  rb : RB W w.heap.size kd fr rd N v
  be : Below w.heap.size w W
  sz : w.heap.size + 1 ≤ W.heap.size
  nt : NtsAt W gb off l
  ow : W.ownsRow (w.heap.size + 1) 5 1 (cond d16 g.2 b) (cond d16 (C.length + 2) C.length) (cond d16 (cB C ++ cB [o, q]) (cB C))
  bx : d15 = true → d16 = false → W.heap[g.1]? = some (.cells #[.int .u8 (o : Int), .int .u8 (q : Int)] 5 (0, 0))
section
variable {w : World} {kd : Int} {fr : Nat} {rd : Int} {N : Nat} {v b : Value} {C : List Nat} {o q gb off : Nat} {l : List (Int × Int × Int)} {g : Nat × Value} {W : World}
theorem JQw.build (hgb : gb < w.heap.size) (h : JQw w kd fr rd N v b C o q gb off l g false false W) : JQw w kd fr rd N v b C o q gb off l (W.heap.size, g.2) true false (W.alloc (.cells #[.int .u8 (o : Int), .int .u8 (q : Int)] 5)) := by
  have hb := al1' W (.cells #[.int .u8 (o : Int), .int .u8 (q : Int)] 5)
  exact ⟨h.rb.below hb, bel2 h.be hb, by have := h.sz; simp; omega, h.nt.carry (Nat.lt_of_lt_of_le hgb h.be.size) hb, row_below h.ow hb, fun _ _ => new_at rfl⟩
theorem JQw.app (hgb : gb < w.heap.size) (ty : TypeId) (hC : C.length ≤ 600) (h : JQw w kd fr rd N v b C o q gb off l g true false W) : ∃ v' W', (Builtin.append_ #[47, 47] ty #[b, .slice (some ⟨g.1, 0, none⟩) 2 2]).run Tryz.prog W = .ok v' W' ∧ JQw w kd fr rd N v b C o q gb off l (g.1, v') true true W' := by
  obtain ⟨ic, hic, hz0, hz1, hz2⟩ := info_partsB
  have hbx := h.bx rfl rfl
  have ho : W.ownsRow (w.heap.size + 1) 5 1 b C.length (cB C) := h.ow
  obtain ⟨v', W', hr, h2, h3, _, _⟩ := run_append_own_at (P := Tryz.prog) W (w.heap.size + 1) 47 ty 5 ic _ 1 1 Tryz.underlying47 hic hz0 hz1 hz2 rfl (by decide) b C.length (cB C) ho ⟨g.1, 0, none⟩ 2 2 (cB [o, q]) rfl (fun j u hj => by
      rw [add_pl, Nat.zero_add, cell_at hbx j]
      match j, hj with
      | 0, hj => simp [cB] at hj; subst hj; rfl
      | 1, hj => simp [cB] at hj; subst hj; rfl
      | j + 2, hj => simp [cB] at hj) (by simp [cB, Value.oneCell']) (by unfold maxLen; omega) (by omega) h.sz
  have hbl : Below (w.heap.size + 1) W W' := (Below.refl _ W).grown h3 h.sz (fun k e => own_block ho k e)
  refine ⟨v', W', hr, h.rb.lower hbl (Nat.lt_succ_self _), h.be.trans (hbl.mono (Nat.le_succ _)), Nat.le_trans h.sz hbl.size, ?_, h2, fun _ e => by cases e⟩
  intro k x hk
  have := h.nt k x hk
  exact ⟨(hbl.cell (p := ⟨gb, off + k * 3, none⟩) (Nat.lt_succ_of_lt hgb)).trans this.1, (hbl.cell (p := ⟨gb, off + k * 3 + 1, none⟩) (Nat.lt_succ_of_lt hgb)).trans this.2.1, (hbl.cell (p := ⟨gb, off + k * 3 + 2, none⟩) (Nat.lt_succ_of_lt hgb)).trans this.2.2⟩
end
section
variable {G : Type} {P : Program} {md : Region.Mode} {ops : Array Oper} {Q : Exit → Act → World → Prop} {X0 : Array Value} {val : G → Nat → Value} {J : G → (Nat → Bool) → World → Prop} {i : Nat} {o : Oper}
theorem stepG_build2w (hi : ops[i]? = some o) (hg : o.guard = none) (t : TypeId) (x y : Operand) (v u : Value) (ho : o.op = .buildSlice t 2 #[(0, x), (1, y)]) (hx : ∀ g, rdo md ops X0 (val g) i o x = some v) (hy : ∀ g, rdo md ops X0 (val g) i o y = some u)
    (h : ∀ g d w, J g d w → d i = false → (∀ j oj, ops[j]? = some oj → d j = true → ∀ k, bindsOn md oj k = true → d k = true) → ∃ g' w', (Instr.buildSlice t 2 #[(0, v), (1, u)]).run P w = .ok (val g' i) w' ∧ (∀ j, d j = true → val g' j = val g j) ∧ J g' (fun j => if j = i then true else d j) w') : StepG P md ops Q X0 val J i o := by
  intro g d a w hJ hun hdep hcl hS
  have hS' : Seen md ops X0 (val g) i o a := hS
  obtain ⟨g', w', h1, h2, h3⟩ := h g d w hJ hun hcl
  unfold wpOp
  rw [hi]
  simp only [Region.wanted, hg, if_true]
  refine .inl ?_
  unfold Oper.wp execOp
  simp only [ho, List.map_toArray, List.map_cons, List.map_nil, hS'.eval (hx g), hS'.eval (hy g), Sem.run_bind, h1, Result.andThen_ok, Sem.run_pure, Oper.upon_value]
  exact ⟨g', h2, rfl, h3⟩
theorem stepG_append (hi : ops[i]? = some o) (hg : o.guard = none) (t : TypeId) (x y : Operand) (vx vy : G → Value) (ho : o.op = .call { callee := .builtin .append, args := #[x, y], argTypes := #[t, t] }) (hx : ∀ g, rdo md ops X0 (val g) i o x = some (vx g)) (hy : ∀ g, rdo md ops X0 (val g) i o y = some (vy g))
    (h : ∀ g d w, J g d w → d i = false → (∀ j, bindsOn md o j = true → d j = true) → (∀ j oj, ops[j]? = some oj → d j = true → ∀ k, bindsOn md oj k = true → d k = true) → ∃ g' w', (Builtin.append_ #[t, t] o.type #[vx g, vy g]).run P w = .ok (val g' i) w' ∧ (∀ j, d j = true → val g' j = val g j) ∧ J g' (fun j => if j = i then true else d j) w') : StepG P md ops Q X0 val J i o := by
  intro g d a w hJ hun hdep hcl hS
  have hS' : Seen md ops X0 (val g) i o a := hS
  obtain ⟨g', w', h1, h2, h3⟩ := h g d w hJ hun hdep hcl
  unfold wpOp
  rw [hi]
  simp only [Region.wanted, hg, if_true]
  refine .inl ?_
  unfold Oper.wp execOp
  simp only [ho, resolve, invoke, builtin, List.map_toArray, List.map_cons, List.map_nil, hS'.eval (hx g), hS'.eval (hy g), Sem.run_bind, h1, Result.andThen_ok, Sem.run_pure, Oper.upon_value]
  exact ⟨g', h2, rfl, h3⟩
end

theorem wth_mod {M n : Nat} (hn : n ≤ 100) (h : wthB M n = true) : M < 2 ^ n := by
  have h1 := of_decide_eq_true h
  have h2 : topW (n : Int) = n := by unfold topW; omega
  rw [h2] at h1
  rw [h1]
  exact Nat.mod_lt _ (Nat.two_pow_pos _)
theorem pre_bits {N i : Nat} : N % 2 ^ i + (if N.testBit i = true then 2 ^ i else 0) = N % 2 ^ (i + 1) := by
  rw [Nat.pow_succ, Nat.mod_mul, Nat.testBit_eq_decide_div_mod_eq]
  rcases Nat.mod_two_eq_zero_or_one (N / 2 ^ i) with h | h <;> simp [h]
theorem bo_err {kd : Nat} {n fr rd : Int} {N : Nat} {l : List (Int × Int × Int)} {w w' : World} {c : Int} (h : flt kd n fr rd N l = c) (hc : c ≠ 0) (hb : Below w.heap.size w w') : BO kd n fr rd N l w (.returned (.tuple #[.slice none 0 0, .int .i64 c])) w' := by
  refine ⟨_, by rw [h], ?_, hb⟩
  rw [fb7, if_neg (by rw [h]; exact hc)]
  exact owB_nil _ _
set_option maxHeartbeats 4000000 in
set_option maxRecDepth 100000 in
theorem rb3_no (n fr : Int) (ad : Option Addr) (cap : Nat) (l : List (Int × Int × Int)) (w : World) (h : RdN w ad l) (hl : l.length ≤ 6000000000000) (hf : ¬ flt 3 n fr 0 0 l = 0) : Calls Tryz.prog 38 #[.agg #[.int .i64 3, .int .i64 fr, .int .i64 0, .int .u32 (wd 0 0 : Nat), .int .u32 (wd 0 1 : Nat), .int .u32 (wd 0 2 : Nat), .int .u32 (wd 0 3 : Nat), .slice ad l.length cap], .int .i64 n] w (BO 3 n fr 0 0 l w) := by
  have hbW := al1' w (.cells #[.int .i64 3, .int .i64 fr, .int .i64 0, .int .u32 (wd 0 0 : Nat), .int .u32 (wd 0 1 : Nat), .int .u32 (wd 0 2 : Nat), .int .u32 (wd 0 3 : Nat), .slice ad l.length cap] 27)
  have hRB : RB (w.alloc (.cells #[.int .i64 3, .int .i64 fr, .int .i64 0, .int .u32 (wd 0 0 : Nat), .int .u32 (wd 0 1 : Nat), .int .u32 (wd 0 2 : Nat), .int .u32 (wd 0 3 : Nat), .slice ad l.length cap] 27)) w.heap.size 3 fr 0 0 (.slice ad l.length cap) := new_at rfl
  have hrW := h.carry hbW
  obtain ⟨W0, hW0⟩ : ∃ W0, w.alloc (.cells #[.int .i64 3, .int .i64 fr, .int .i64 0, .int .u32 (wd 0 0 : Nat), .int .u32 (wd 0 1 : Nat), .int .u32 (wd 0 2 : Nat), .int .u32 (wd 0 3 : Nat), .slice ad l.length cap] 27) = W0 := ⟨_, rfl⟩
  rw [hW0] at hbW hRB hrW
  obtain ⟨d0, d1, d2, d3, d4, d5, d6, d7⟩ := hRB.cells
  by_cases g1 : n < 1
  · have HF : Hid (flt 3 n fr 0 0 l = 1) := if_pos (by omega)
    clear hf
    go_enter Tryz.func38, Tryz.ntmps38
    go_wp2
    go_ret2
    exact bo_err HF.out (by decide) hbW
  by_cases g2 : 100 < n
  · have HF : Hid (flt 3 n fr 0 0 l = 1) := if_pos (by omega)
    clear hf
    go_enter Tryz.func38, Tryz.ntmps38
    go_wp2
    go_ret2
    exact bo_err HF.out (by decide) hbW
  by_cases g3 : fr < 0
  · have HF : Hid (flt 3 n fr 0 0 l = 72) := (if_neg (by omega)).trans (if_pos (by omega))
    clear hf
    go_enter Tryz.func38, Tryz.ntmps38
    go_wp2
    go_ret2
    exact bo_err HF.out (by decide) hbW
  by_cases g4 : n ≤ fr
  · have HF : Hid (flt 3 n fr 0 0 l = 72) := (if_neg (by omega)).trans (if_pos (by omega))
    clear hf
    go_enter Tryz.func38, Tryz.ntmps38
    go_wp2
    go_ret2
    exact bo_err HF.out (by decide) hbW
  have hri := fun W (hW : RdN W ad l) => rRising_any n ad cap l W hW hl
  have g8 : ris n (-1) l = false := by
    by_cases q : ris n (-1) l = false
    · exact q
    · exact absurd ((if_neg (by omega)).trans ((if_neg (by omega)).trans ((if_neg (by simp)).trans ((if_neg (by simp [wthB])).trans (if_neg q))))) hf
  have HF : Hid (flt 3 n fr 0 0 l = 75) := (if_neg (by omega)).trans ((if_neg (by omega)).trans ((if_neg (by simp)).trans ((if_neg (by simp [wthB])).trans (if_pos g8))))
  rw [g8] at hri
  clear hf
  go_enter Tryz.func38, Tryz.ntmps38
  go_wp2_with (first | (go_at_call 63; (with_reducible refine (hri _ hrW).mono ?_); rintro e u1 ⟨rfl, hb1⟩; have hbU1 := bel2 hbW hb1))
  go_ret2
  exact bo_err HF.out (by decide) hbU1
set_option maxHeartbeats 8000000 in
set_option maxRecDepth 100000 in
theorem rb3_ok (n fr : Nat) (ad : Option Addr) (cap : Nat) (l : List (Int × Int × Int)) (w : World) (h : RdN w ad l) (hf : flt 3 n fr 0 0 l = 0) : Calls Tryz.prog 38 #[.agg #[.int .i64 3, .int .i64 fr, .int .i64 0, .int .u32 (wd 0 0 : Nat), .int .u32 (wd 0 1 : Nat), .int .u32 (wd 0 2 : Nat), .int .u32 (wd 0 3 : Nat), .slice ad l.length cap], .int .i64 (n : Int)] w fun e w' => ∃ b, e = .returned (.tuple #[b, .int .i64 0]) ∧ OwB w' w.heap.size b (byt7 3 n fr 0 0 l) ∧ Below w.heap.size w w' := by
  have hmx : Tryz.prog.follows .mixedOrders = true := by kernel_rfl
  obtain ⟨hn, hfr, hrd, hwt, hri⟩ := flt_0 hf
  have hlen := ris_len n l (-1) (by omega) (by omega) hri
  have hbW := al1' w (.cells #[.int .i64 3, .int .i64 fr, .int .i64 0, .int .u32 (wd 0 0 : Nat), .int .u32 (wd 0 1 : Nat), .int .u32 (wd 0 2 : Nat), .int .u32 (wd 0 3 : Nat), .slice ad l.length cap] 27)
  have hRB : RB (w.alloc (.cells #[.int .i64 3, .int .i64 fr, .int .i64 0, .int .u32 (wd 0 0 : Nat), .int .u32 (wd 0 1 : Nat), .int .u32 (wd 0 2 : Nat), .int .u32 (wd 0 3 : Nat), .slice ad l.length cap] 27)) w.heap.size 3 fr 0 0 (.slice ad l.length cap) := new_at rfl
  have hrW := h.carry hbW
  obtain ⟨W0, hW0⟩ : ∃ W0, w.alloc (.cells #[.int .i64 3, .int .i64 fr, .int .i64 0, .int .u32 (wd 0 0 : Nat), .int .u32 (wd 0 1 : Nat), .int .u32 (wd 0 2 : Nat), .int .u32 (wd 0 3 : Nat), .slice ad l.length cap] 27) = W0 := ⟨_, rfl⟩
  rw [hW0] at hbW hRB hrW
  obtain ⟨d0, d1, d2, d3, d4, d5, d6, d7⟩ := hRB.cells
  have hriC := fun W (hW : RdN W ad l) => rRising_any n ad cap l W hW (by omega)
  rw [hri] at hriC
  obtain ⟨ic, hic, hz0, hz1, hz2⟩ := info_partsB
  have hl100 : l.length ≤ 100 := by omega
  have g1 : ¬ (n : Int) < 1 := by omega
  have g2 : ¬ (100 : Int) < (n : Int) := by omega
  have g3 : ¬ (fr : Int) < 0 := by omega
  have g4 : ¬ (n : Int) ≤ (fr : Int) := by omega
  have iN8 : (n : Int) % 256 = (n : Int) := by omega
  have iF8 : (fr : Int) % 256 = (fr : Int) := by omega
  have iL8 : (l.length : Int) % 256 = (l.length : Int) := by omega
  have hB1 := bs1
  have hB2 := bs2
  have hB5 := bs5
  obtain ⟨P, HPl, HP, HQ⟩ : ∃ P : List Nat, P.length ≤ 30 ∧ Hid (frm 3 n fr 0 0 l = P ++ newsB l) ∧ Hid (P = [101, 115, 3, n, fr] ++ [l.length]) := by
    refine ⟨[101, 115, 3, n, fr] ++ [l.length], ?_, ?_, rfl⟩
    · simp
    · show frm 3 n fr 0 0 l = _
      rw [frm, Nat.mod_eq_of_lt (show n < 256 by omega), Nat.mod_eq_of_lt (show fr < 256 by omega), Nat.mod_eq_of_lt (show l.length < 256 by omega)]
      simp [rndB, setB]
  have HL : Hid (RdN w ad l) := h
  have HRI : Hid (ris n (-1) l = true) := hri
  have h13 : l.length + 3 ≤ 103 := by omega
  clear h hwt hri hf hrd
  go_enter Tryz.func38, Tryz.ntmps38
  go_wp2_with (first | (go_at_call 63; (with_reducible refine (hriC _ hrW).mono ?_); rintro e u1 ⟨rfl, hb1⟩; have hbU1 := bel2 hbW hb1; have hRB1 := hRB.below hb1; have hS1 : SR w 3 fr 0 0 (.slice ad l.length cap) (.slice (some ⟨u1.heap.size, 0, none⟩) 5 5) [101, 115, 3, n, fr] (u1.alloc (.cells #[.int .u8 101, .int .u8 115, .int .u8 3, .int .u8 (n : Int), .int .u8 (fr : Int)] 5)) := ⟨hRB1.below (al1' u1 _), bel2 hbU1 (al1' u1 _), (by have := lt_at hRB1; simp; omega), World.ownsRow_lit (base := w.heap.size + 1) (e := 5) (size := 1) u1 #[.int .u8 101, .int .u8 115, .int .u8 3, .int .u8 (n : Int), .int .u8 (fr : Int)] 5 (lt_at hRB1) (by decide) (by simp), (by simp)⟩; clear d0 d1 d2 d3 d4 d5 d6 d7; obtain ⟨d0, d1, d2, d3, d4, d5, d6, d7⟩ := hRB1.cells; obtain ⟨f0, f1, f2, f3, f4, f5, f6, f7⟩ := hS1.rb.cells) | (at_builtin; refine wpList_append_own_at _ rfl _ _ 47 rfl (w.heap.size + 1) 5 ic _ 1 1 Tryz.underlying47 hic hz0 hz1 hz2 rfl (by decide) _ ([101, 115, 3, n, fr]).length (cB ([101, 115, 3, n, fr])) rfl (World.ownsRow.alloc (OwB.out hS1.ow) _) ⟨u1.heap.size + 1, 0, none⟩ 1 1 [_] rfl rfl (rowN_at _ #[_] _ (by simp)) (by simp [Value.oneCell']) (by have := hS1.ln; unfold maxLen; omega) (by have := hS1.ln; omega) (by have := hS1.sz; first | (simp; omega) | (simp at this ⊢; omega)) ?_; intro b' z6 hown' hgrow _ hob; have hS6 := SR.app [l.length] hS1 hgrow hown' (by simp); clear hown' hgrow hob; obtain ⟨d0, d1, d2, d3, d4, d5, d6, d7⟩ := hS6.rb.cells))
  have hS7 : SR w 3 fr 0 0 (.slice ad l.length cap) b' P z6 := HQ.out ▸ hS6
  clear hS6 hS1 HQ hRB hbW hrW hriC
  go_loopw [6, 10] (fun b i wz => ∃ (k : Nat), i = .int .i64 k ∧ k ≤ l.length ∧ SR w 3 fr 0 0 (.slice ad l.length cap) b (P ++ newsB (l.take k)) wz) (fun _ i _ => l.length - vnatW i)
  case atStart => exact ⟨0, rfl, Nat.zero_le _, by simpa [newsB] using hS7⟩
  case round =>
    obtain ⟨k, rfl, hk, hS⟩ := hrel
    clear hS7 d0 d1 d2 d3 d4 d5 d6 d7
    obtain ⟨d0, d1, d2, d3, d4, d5, d6, d7⟩ := hS.rb.cells
    have hsw := hS.sz
    by_cases hkl : k < l.length
    · have hki : (k : Int) < (l.length : Int) := by omega
      obtain ⟨⟨o, t, q⟩, hx⟩ : ∃ x, l[k]? = some x := ⟨_, List.getElem?_eq_getElem hkl⟩
      obtain ⟨v1, v2, v3, v4, v5, v6⟩ := vl_bounds (ris_get HRI.out hx)
      dsimp only at v1 v2 v3 v4 v5 v6
      obtain ⟨o, rfl⟩ := Int.eq_ofNat_of_zero_le v1
      obtain ⟨t, rfl⟩ := Int.eq_ofNat_of_zero_le v3
      obtain ⟨q, rfl⟩ := Int.eq_ofNat_of_zero_le (show 0 ≤ q by omega)
      obtain ⟨g', off, rfl, hgl, hat⟩ := HL.out (fun e => by subst e; simp at hkl)
      have ho256 : o < 256 := by omega
      have hq256 : q < 256 := by omega
      have HX : Hid (newsB (l.take (k + 1)) = newsB (l.take k) ++ [o, q] ++ numB t 3) := by
        have := newsB_step l k _ _ _ hx
        rw [Int.toNat_natCast, Int.toNat_natCast, Int.toNat_natCast, Nat.mod_eq_of_lt (show o < 256 by omega), Nat.mod_eq_of_lt (show q < 256 by omega)] at this
        exact this
      have hlk : (newsB (l.take k)).length ≤ 5 * k := by rw [newsB_len, List.length_take]; omega
      go_wp2
      refine wp_region_any hmx ?_
      refine wpAny_tabG (G := (Nat × Value)) (fun g i__ => ([u6, (.pointer (some ⟨w.heap.size, 7, none⟩)), (.slice (some ⟨g', off, none⟩) l.length cap), (.int .i64 (k : Int)), (.pointer (some ⟨g', off + k * 3, none⟩)), (.pointer (some ⟨g', off + k * 3, none⟩)), (.int .i64 (o : Int)), (.int .u8 (o : Int)), (.pointer (some ⟨w.heap.size, 7, none⟩)), (.slice (some ⟨g', off, none⟩) l.length cap), (.int .i64 (k : Int)), (.pointer (some ⟨g', off + k * 3, none⟩)), (.pointer (some ⟨g', off + k * 3 + 2, none⟩)), (.int .i64 (q : Int)), (.int .u8 (q : Int)), (.slice (some ⟨g.1, 0, none⟩) 2 2), g.2, g.2] : List Value).getD i__ undef) (fun g d W => JQw w 3 fr 0 0 (.slice (some ⟨g', off, none⟩) l.length cap) u6 (P ++ newsB (l.take k)) o q g' off l g (d 15) (d 16) W) (by kernel_rfl) ((0, undef)) (show JQw w 3 fr 0 0 (.slice (some ⟨g', off, none⟩) l.length cap) u6 (P ++ newsB (l.take k)) o q g' off l (0, undef) false false _ from ⟨hS.rb.below (Below.refl _ _).drew, hS.be.trans (Below.refl _ _).drew, hS.sz, hat.carry hgl (hS.be.trans (Below.refl _ _).drew), hS.ow.out, fun e => by cases e⟩) ?step1 ?fin1
      case step1 =>
        intro i o ho
        have hi : i < 18 := getElem?_lt ho
        match i, hi, ho with
        | 0, _, ho =>
          cases ho
          refine stepG_of (fun g d hdep => ?_)
          exact step_move rfl trivial _ rfl (by kernel_rfl)
        | 1, _, ho =>
          cases ho
          refine stepG_of (fun g d hdep => ?_)
          exact step_fieldAddr rfl trivial _ _ _ _ rfl rfl (fun w hw => field_rb _ w)
        | 2, _, ho =>
          cases ho
          refine stepG_of (fun g d hdep => ?_)
          exact step_load rfl trivial _ _ _ rfl rfl (fun w hw => load_rb hw.rb)
        | 3, _, ho =>
          cases ho
          refine stepG_of (fun g d hdep => ?_)
          exact step_move rfl trivial _ rfl (by kernel_rfl)
        | 4, _, ho =>
          cases ho
          refine stepG_of (fun g d hdep => ?_)
          exact step_indexAddr rfl trivial _ _ _ _ _ rfl rfl rfl (fun w hw => idx_n g' off l.length cap k hkl w)
        | 5, _, ho =>
          cases ho
          refine stepG_of (fun g d hdep => ?_)
          exact step_fieldAddr rfl trivial _ _ _ _ rfl rfl (fun w hw => field_at w _ _)
        | 6, _, ho =>
          cases ho
          refine stepG_of (fun g d hdep => ?_)
          exact step_load rfl trivial _ _ _ rfl rfl (fun w hw => load_of hw.nt hx)
        | 7, _, ho =>
          cases ho
          refine stepG_of (fun g d hdep => ?_)
          exact step_convert rfl trivial _ _ _ _ rfl rfl (fun w hw => conv8 o ho256 w)
        | 8, _, ho =>
          cases ho
          refine stepG_of (fun g d hdep => ?_)
          exact step_fieldAddr rfl trivial _ _ _ _ rfl rfl (fun w hw => field_rb _ w)
        | 9, _, ho =>
          cases ho
          refine stepG_of (fun g d hdep => ?_)
          exact step_load rfl trivial _ _ _ rfl rfl (fun w hw => load_rb hw.rb)
        | 10, _, ho =>
          cases ho
          refine stepG_of (fun g d hdep => ?_)
          exact step_move rfl trivial _ rfl (by kernel_rfl)
        | 11, _, ho =>
          cases ho
          refine stepG_of (fun g d hdep => ?_)
          exact step_indexAddr rfl trivial _ _ _ _ _ rfl rfl rfl (fun w hw => idx_n g' off l.length cap k hkl w)
        | 12, _, ho =>
          cases ho
          refine stepG_of (fun g d hdep => ?_)
          exact step_fieldAddr rfl trivial _ _ _ _ rfl rfl (fun w hw => field_nt2 _ _ w)
        | 13, _, ho =>
          cases ho
          refine stepG_of (fun g d hdep => ?_)
          exact step_load rfl trivial _ _ _ rfl rfl (fun w hw => load_kd hw.nt hx)
        | 14, _, ho =>
          cases ho
          refine stepG_of (fun g d hdep => ?_)
          exact step_convert rfl trivial _ _ _ _ rfl rfl (fun w hw => conv8 q hq256 w)
        | 15, _, ho =>
          cases ho
          exact stepG_build2w rfl rfl _ _ _ (.int .u8 (o : Int)) (.int .u8 (q : Int)) rfl (fun g => by kernel_rfl) (fun g => by kernel_rfl) (fun g d W hJ hun hcl => by have h16 : d 16 = false := (by cases h : d 16 with | false => rfl | true => exact absurd (hcl 16 _ rfl h 15 (by kernel_rfl)) (by rw [hun]; simp)); have hJ' := hJ; rw [hun, h16] at hJ'; refine ⟨(W.heap.size, g.2), _, bs2 _ _ _, (fun j hj => match j, hj with | 15, hj => (by rw [hj] at hun; cases hun)  | 0, _ => rfl | 1, _ => rfl | 2, _ => rfl | 3, _ => rfl | 4, _ => rfl | 5, _ => rfl | 6, _ => rfl | 7, _ => rfl | 8, _ => rfl | 9, _ => rfl | 10, _ => rfl | 11, _ => rfl | 12, _ => rfl | 13, _ => rfl | 14, _ => rfl | 16, _ => rfl | 17, _ => rfl | _ + 18, _ => rfl), ?_⟩; show JQw w 3 fr 0 0 (.slice (some ⟨g', off, none⟩) l.length cap) _ _ o q g' off l _ true (d 16) _; rw [h16]; exact hJ'.build hgl)
        | 16, _, ho =>
          cases ho
          exact stepG_append rfl rfl _ _ _ (fun _ => u6) (fun g => .slice (some ⟨g.1, 0, none⟩) 2 2) rfl (fun g => by kernel_rfl) (fun g => by kernel_rfl) (fun g d W hJ hun hdep hcl => by have h15 : d 15 = true := hdep 15 (by kernel_rfl); have hJ' := hJ; rw [h15, hun] at hJ'; obtain ⟨v', W', hr, hA⟩ := hJ'.app hgl 47 (by have := hS.ln; simpa using this); refine ⟨(g.1, v'), W', hr, (fun j hj => match j, hj with | 16, hj => (by rw [hj] at hun; cases hun) | 17, hj => absurd ((hcl 17 _ rfl hj 16 (by kernel_rfl))) (by rw [hun]; simp) | 0, _ => rfl | 1, _ => rfl | 2, _ => rfl | 3, _ => rfl | 4, _ => rfl | 5, _ => rfl | 6, _ => rfl | 7, _ => rfl | 8, _ => rfl | 9, _ => rfl | 10, _ => rfl | 11, _ => rfl | 12, _ => rfl | 13, _ => rfl | 14, _ => rfl | 15, _ => rfl | _ + 18, _ => rfl), ?_⟩; show JQw w 3 fr 0 0 (.slice (some ⟨g', off, none⟩) l.length cap) _ _ o q g' off l _ (d 15) true _; rw [h15]; exact hA)
        | 17, _, ho =>
          cases ho
          refine stepG_of (fun g d hdep => ?_)
          exact step_assign rfl trivial _ rfl (by kernel_rfl) (fun _ h => h)
      intro g d W hall hW
      first | refine hK _ _ ?_ | refine (‹∀ (a : Act) (w : World), Code.wp Tryz.prog _ _ a w → _›) _ _ ?_ | skip
      simp only [finL, List.getD_cons_zero, List.getD_cons_succ, Nat.zero_add, Nat.reduceAdd, List.setIfInBounds_toArray, List.set_cons_zero, List.set_cons_succ]
      rw [hall 15 (by decide), hall 16 (by decide)] at hW
      have hS2 : SR w 3 fr 0 0 (.slice (some ⟨g', off, none⟩) l.length cap) g.2 (P ++ newsB (l.take k) ++ [o, q]) W := ⟨hW.rb, hW.be, hW.sz, (by unfold OwB; rw [cB_app, List.length_append]; exact hW.ow), (by simp; omega)⟩
      have hnt := hW.nt
      clear hW hall d0 d1 d2 d3 d4 d5 d6 d7
      obtain ⟨d0, d1, d2, d3, d4, d5, d6, d7⟩ := hS2.rb.cells
      obtain ⟨x0, x1, x2⟩ := hnt k _ hx
      dsimp only at x0 x1 x2
      clear hat hx hnt v1 v2 v3 v4 v5 v6
      go_wp2_with (go_at_call 64; refine (rnumber_any (w.heap.size + 1) _ _ t 3 _ hS2.sz hS2.ow (by have := hS2.ln; omega) (by omega)).mono ?_; rintro e u3 ⟨b3, rfl, ho3, hb3⟩; have hS3 := hS2.step hb3 ho3 (by simp [numB_len]; omega))
      go_roundw
      case rel => exact ⟨k + 1, by simp, by omega, by rw [HX.out, ← List.append_assoc, ← List.append_assoc]; exact hS3⟩
      case measure => simp [vnatW]; omega
    · have hkk : k = l.length := by omega
      subst hkk
      rw [List.take_length, ← HP.out] at hS
      have hki : ¬ ((l.length : Int) < (l.length : Int)) := by omega
      obtain ⟨ad2, cap2, rfl, hrb⟩ := RdB.own hS.ow.out
      have hsum := rSum_any ad2 cap2 (frm 3 n fr 0 0 l) wr hrb (frm_byt _ _ _ _ _ _) (by have := hS.ln; omega)
      have hadd := rnumber_any (w.heap.size + 1) _ _ (sumV (frm 3 n fr 0 0 l)) 4 wr hS.sz hS.ow (by have := hS.ln; omega) (by omega)
      have HB : Hid (byt7 3 n fr 0 0 l = frm 3 n fr 0 0 l ++ numB (sumV (frm 3 n fr 0 0 l)) 4) := rfl
      generalize sumV (frm 3 n fr 0 0 l) = SV at *
      generalize frm 3 n fr 0 0 l = FM at *
      have hbe := hS.be
      clear hS hrb HP
      go_wp2_with (first | (go_at_call 66; refine hsum.mono ?_; rintro e u ⟨rfl, hu⟩; rw [hu]; clear hu u) | (go_at_call 64; refine hadd.mono ?_; rintro e u3 ⟨b3, rfl, ho3, hb3⟩))
      go_ret2
      exact ⟨_, rfl, by rw [HB.out]; exact ownsRow_base ho3 (Nat.le_succ _), hbe.trans (hb3.mono (Nat.le_succ _))⟩
set_option maxHeartbeats 4000000 in
set_option maxRecDepth 100000 in
theorem rb1_no (n fr rd : Int) (ad : Option Addr) (cap : Nat) (l : List (Int × Int × Int)) (w : World) (h : RdN w ad l) (hl : l.length ≤ 6000000000000) (hf : ¬ flt 1 n fr rd 0 l = 0) : Calls Tryz.prog 38 #[.agg #[.int .i64 1, .int .i64 fr, .int .i64 rd, .int .u32 (wd 0 0 : Nat), .int .u32 (wd 0 1 : Nat), .int .u32 (wd 0 2 : Nat), .int .u32 (wd 0 3 : Nat), .slice ad l.length cap], .int .i64 n] w (BO 1 n fr rd 0 l w) := by
  have hbW := al1' w (.cells #[.int .i64 1, .int .i64 fr, .int .i64 rd, .int .u32 (wd 0 0 : Nat), .int .u32 (wd 0 1 : Nat), .int .u32 (wd 0 2 : Nat), .int .u32 (wd 0 3 : Nat), .slice ad l.length cap] 27)
  have hRB : RB (w.alloc (.cells #[.int .i64 1, .int .i64 fr, .int .i64 rd, .int .u32 (wd 0 0 : Nat), .int .u32 (wd 0 1 : Nat), .int .u32 (wd 0 2 : Nat), .int .u32 (wd 0 3 : Nat), .slice ad l.length cap] 27)) w.heap.size 1 fr rd 0 (.slice ad l.length cap) := new_at rfl
  have hrW := h.carry hbW
  obtain ⟨W0, hW0⟩ : ∃ W0, w.alloc (.cells #[.int .i64 1, .int .i64 fr, .int .i64 rd, .int .u32 (wd 0 0 : Nat), .int .u32 (wd 0 1 : Nat), .int .u32 (wd 0 2 : Nat), .int .u32 (wd 0 3 : Nat), .slice ad l.length cap] 27) = W0 := ⟨_, rfl⟩
  rw [hW0] at hbW hRB hrW
  obtain ⟨d0, d1, d2, d3, d4, d5, d6, d7⟩ := hRB.cells
  by_cases g1 : n < 1
  · have HF : Hid (flt 1 n fr rd 0 l = 1) := if_pos (by omega)
    clear hf
    go_enter Tryz.func38, Tryz.ntmps38
    go_wp2
    go_ret2
    exact bo_err HF.out (by decide) hbW
  by_cases g2 : 100 < n
  · have HF : Hid (flt 1 n fr rd 0 l = 1) := if_pos (by omega)
    clear hf
    go_enter Tryz.func38, Tryz.ntmps38
    go_wp2
    go_ret2
    exact bo_err HF.out (by decide) hbW
  by_cases g3 : fr < 0
  · have HF : Hid (flt 1 n fr rd 0 l = 72) := (if_neg (by omega)).trans (if_pos (by omega))
    clear hf
    go_enter Tryz.func38, Tryz.ntmps38
    go_wp2
    go_ret2
    exact bo_err HF.out (by decide) hbW
  by_cases g4 : n ≤ fr
  · have HF : Hid (flt 1 n fr rd 0 l = 72) := (if_neg (by omega)).trans (if_pos (by omega))
    clear hf
    go_enter Tryz.func38, Tryz.ntmps38
    go_wp2
    go_ret2
    exact bo_err HF.out (by decide) hbW
  by_cases g5 : rd < 1
  · have HF : Hid (flt 1 n fr rd 0 l = 73) := (if_neg (by omega)).trans ((if_neg (by omega)).trans (if_pos ⟨by decide, by omega⟩))
    clear hf
    go_enter Tryz.func38, Tryz.ntmps38
    go_wp2
    go_ret2
    exact bo_err HF.out (by decide) hbW
  by_cases g6 : 1099511627775 < rd
  · have HF : Hid (flt 1 n fr rd 0 l = 73) := (if_neg (by omega)).trans ((if_neg (by omega)).trans (if_pos ⟨by decide, by omega⟩))
    clear hf
    go_enter Tryz.func38, Tryz.ntmps38
    go_wp2
    go_ret2
    exact bo_err HF.out (by decide) hbW
  have hri := fun W (hW : RdN W ad l) => rRising_any n ad cap l W hW hl
  have g8 : ris n (-1) l = false := by
    by_cases q : ris n (-1) l = false
    · exact q
    · exact absurd ((if_neg (by omega)).trans ((if_neg (by omega)).trans ((if_neg (by omega)).trans ((if_neg (by simp [wthB])).trans (if_neg q))))) hf
  have HF : Hid (flt 1 n fr rd 0 l = 75) := (if_neg (by omega)).trans ((if_neg (by omega)).trans ((if_neg (by omega)).trans ((if_neg (by simp [wthB])).trans (if_pos g8))))
  rw [g8] at hri
  clear hf
  go_enter Tryz.func38, Tryz.ntmps38
  go_wp2_with (first | (go_at_call 63; (with_reducible refine (hri _ hrW).mono ?_); rintro e u1 ⟨rfl, hb1⟩; have hbU1 := bel2 hbW hb1))
  go_ret2
  exact bo_err HF.out (by decide) hbU1
set_option maxHeartbeats 8000000 in
set_option maxRecDepth 100000 in
theorem rb1_ok (n fr : Nat) (rd : Int) (ad : Option Addr) (cap : Nat) (l : List (Int × Int × Int)) (w : World) (h : RdN w ad l) (hf : flt 1 n fr rd 0 l = 0) : Calls Tryz.prog 38 #[.agg #[.int .i64 1, .int .i64 fr, .int .i64 rd, .int .u32 (wd 0 0 : Nat), .int .u32 (wd 0 1 : Nat), .int .u32 (wd 0 2 : Nat), .int .u32 (wd 0 3 : Nat), .slice ad l.length cap], .int .i64 (n : Int)] w fun e w' => ∃ b, e = .returned (.tuple #[b, .int .i64 0]) ∧ OwB w' w.heap.size b (byt7 1 n fr rd.toNat 0 l) ∧ Below w.heap.size w w' := by
  have hmx : Tryz.prog.follows .mixedOrders = true := by kernel_rfl
  obtain ⟨hn, hfr, hrd, hwt, hri⟩ := flt_0 hf
  have hlen := ris_len n l (-1) (by omega) (by omega) hri
  have hbW := al1' w (.cells #[.int .i64 1, .int .i64 fr, .int .i64 rd, .int .u32 (wd 0 0 : Nat), .int .u32 (wd 0 1 : Nat), .int .u32 (wd 0 2 : Nat), .int .u32 (wd 0 3 : Nat), .slice ad l.length cap] 27)
  have hRB : RB (w.alloc (.cells #[.int .i64 1, .int .i64 fr, .int .i64 rd, .int .u32 (wd 0 0 : Nat), .int .u32 (wd 0 1 : Nat), .int .u32 (wd 0 2 : Nat), .int .u32 (wd 0 3 : Nat), .slice ad l.length cap] 27)) w.heap.size 1 fr rd 0 (.slice ad l.length cap) := new_at rfl
  have hrW := h.carry hbW
  obtain ⟨W0, hW0⟩ : ∃ W0, w.alloc (.cells #[.int .i64 1, .int .i64 fr, .int .i64 rd, .int .u32 (wd 0 0 : Nat), .int .u32 (wd 0 1 : Nat), .int .u32 (wd 0 2 : Nat), .int .u32 (wd 0 3 : Nat), .slice ad l.length cap] 27) = W0 := ⟨_, rfl⟩
  rw [hW0] at hbW hRB hrW
  obtain ⟨d0, d1, d2, d3, d4, d5, d6, d7⟩ := hRB.cells
  have hriC := fun W (hW : RdN W ad l) => rRising_any n ad cap l W hW (by omega)
  rw [hri] at hriC
  have hr0 : 0 ≤ rd := by omega
  have har : ∀ (b : Value) (C : List Nat) (u : World), w.heap.size + 1 ≤ u.heap.size → OwB u (w.heap.size + 1) b C → C.length ≤ 100000 → Calls Tryz.prog 64 #[b, .int .i64 rd, .int .i64 5] u fun e w' => ∃ b', e = .returned b' ∧ OwB w' (w.heap.size + 1) b' (C ++ numB rd.toNat 5) ∧ Below (w.heap.size + 1) u w' := fun b C u hb ho hl => by
    have := rnumber_any (w.heap.size + 1) b C rd.toNat 5 u hb ho hl (by omega)
    rw [Int.toNat_of_nonneg hr0] at this
    exact this
  have g5 : ¬ rd < 1 := by omega
  have g6 : ¬ 1099511627775 < rd := by omega
  obtain ⟨ic, hic, hz0, hz1, hz2⟩ := info_partsB
  have hl100 : l.length ≤ 100 := by omega
  have g1 : ¬ (n : Int) < 1 := by omega
  have g2 : ¬ (100 : Int) < (n : Int) := by omega
  have g3 : ¬ (fr : Int) < 0 := by omega
  have g4 : ¬ (n : Int) ≤ (fr : Int) := by omega
  have iN8 : (n : Int) % 256 = (n : Int) := by omega
  have iF8 : (fr : Int) % 256 = (fr : Int) := by omega
  have iL8 : (l.length : Int) % 256 = (l.length : Int) := by omega
  have hB1 := bs1
  have hB2 := bs2
  have hB5 := bs5
  obtain ⟨P, HPl, HP, HQ⟩ : ∃ P : List Nat, P.length ≤ 30 ∧ Hid (frm 1 n fr rd.toNat 0 l = P ++ newsB l) ∧ Hid (P = [101, 115, 1, n, fr] ++ numB rd.toNat 5 ++ [l.length]) := by
    refine ⟨[101, 115, 1, n, fr] ++ numB rd.toNat 5 ++ [l.length], ?_, ?_, rfl⟩
    · simp [numB_len]
    · show frm 1 n fr rd.toNat 0 l = _
      rw [frm, Nat.mod_eq_of_lt (show n < 256 by omega), Nat.mod_eq_of_lt (show fr < 256 by omega), Nat.mod_eq_of_lt (show l.length < 256 by omega)]
      simp [rndB, setB]
  have HL : Hid (RdN w ad l) := h
  have HRI : Hid (ris n (-1) l = true) := hri
  have h13 : l.length + 3 ≤ 103 := by omega
  clear h hwt hri hf hrd hr0
  go_enter Tryz.func38, Tryz.ntmps38
  go_wp2_with (first | (go_at_call 63; (with_reducible refine (hriC _ hrW).mono ?_); rintro e u1 ⟨rfl, hb1⟩; have hbU1 := bel2 hbW hb1; have hRB1 := hRB.below hb1; have hS1 : SR w 1 fr rd 0 (.slice ad l.length cap) (.slice (some ⟨u1.heap.size, 0, none⟩) 5 5) [101, 115, 1, n, fr] (u1.alloc (.cells #[.int .u8 101, .int .u8 115, .int .u8 1, .int .u8 (n : Int), .int .u8 (fr : Int)] 5)) := ⟨hRB1.below (al1' u1 _), bel2 hbU1 (al1' u1 _), (by have := lt_at hRB1; simp; omega), World.ownsRow_lit (base := w.heap.size + 1) (e := 5) (size := 1) u1 #[.int .u8 101, .int .u8 115, .int .u8 1, .int .u8 (n : Int), .int .u8 (fr : Int)] 5 (lt_at hRB1) (by decide) (by simp), (by simp)⟩; clear d0 d1 d2 d3 d4 d5 d6 d7; obtain ⟨d0, d1, d2, d3, d4, d5, d6, d7⟩ := hRB1.cells; obtain ⟨f0, f1, f2, f3, f4, f5, f6, f7⟩ := hS1.rb.cells) | (go_at_call 64; (with_reducible refine (har _ ([101, 115, 1, n, fr]) _ hS1.sz hS1.ow (by simp)).mono ?_); rintro e u4 ⟨b4, rfl, ho4, hb4⟩; have hS4 : SR w 1 fr rd 0 (.slice ad l.length cap) b4 ([101, 115, 1, n, fr] ++ numB rd.toNat 5) u4 := hS1.step hb4 ho4 (by simp [numB_len]); clear d0 d1 d2 d3 d4 d5 d6 d7; obtain ⟨d0, d1, d2, d3, d4, d5, d6, d7⟩ := hS4.rb.cells) | (at_builtin; refine wpList_append_own_at _ rfl _ _ 47 rfl (w.heap.size + 1) 5 ic _ 1 1 Tryz.underlying47 hic hz0 hz1 hz2 rfl (by decide) _ ([101, 115, 1, n, fr] ++ numB rd.toNat 5).length (cB ([101, 115, 1, n, fr] ++ numB rd.toNat 5)) rfl (World.ownsRow.alloc (OwB.out hS4.ow) _) ⟨u4.heap.size, 0, none⟩ 1 1 [_] rfl rfl (rowN _ #[_] _) (by simp [Value.oneCell']) (by have := hS4.ln; unfold maxLen; omega) (by have := hS4.ln; omega) (by have := hS4.sz; first | (simp; omega) | (simp at this ⊢; omega)) ?_; intro b' z6 hown' hgrow _ hob; have hS6 := SR.app [l.length] hS4 hgrow hown' (by simp [numB_len]); clear hown' hgrow hob; obtain ⟨d0, d1, d2, d3, d4, d5, d6, d7⟩ := hS6.rb.cells))
  have hS7 : SR w 1 fr rd 0 (.slice ad l.length cap) b' P z6 := HQ.out ▸ hS6
  clear hS6 hS1 HQ hRB hbW hrW hriC hS4 har
  go_loopw [6, 10] (fun b i wz => ∃ (k : Nat), i = .int .i64 k ∧ k ≤ l.length ∧ SR w 1 fr rd 0 (.slice ad l.length cap) b (P ++ newsB (l.take k)) wz) (fun _ i _ => l.length - vnatW i)
  case atStart => exact ⟨0, rfl, Nat.zero_le _, by simpa [newsB] using hS7⟩
  case round =>
    obtain ⟨k, rfl, hk, hS⟩ := hrel
    clear hS7 d0 d1 d2 d3 d4 d5 d6 d7
    obtain ⟨d0, d1, d2, d3, d4, d5, d6, d7⟩ := hS.rb.cells
    have hsw := hS.sz
    by_cases hkl : k < l.length
    · have hki : (k : Int) < (l.length : Int) := by omega
      obtain ⟨⟨o, t, q⟩, hx⟩ : ∃ x, l[k]? = some x := ⟨_, List.getElem?_eq_getElem hkl⟩
      obtain ⟨v1, v2, v3, v4, v5, v6⟩ := vl_bounds (ris_get HRI.out hx)
      dsimp only at v1 v2 v3 v4 v5 v6
      obtain ⟨o, rfl⟩ := Int.eq_ofNat_of_zero_le v1
      obtain ⟨t, rfl⟩ := Int.eq_ofNat_of_zero_le v3
      obtain ⟨q, rfl⟩ := Int.eq_ofNat_of_zero_le (show 0 ≤ q by omega)
      obtain ⟨g', off, rfl, hgl, hat⟩ := HL.out (fun e => by subst e; simp at hkl)
      have ho256 : o < 256 := by omega
      have hq256 : q < 256 := by omega
      have HX : Hid (newsB (l.take (k + 1)) = newsB (l.take k) ++ [o, q] ++ numB t 3) := by
        have := newsB_step l k _ _ _ hx
        rw [Int.toNat_natCast, Int.toNat_natCast, Int.toNat_natCast, Nat.mod_eq_of_lt (show o < 256 by omega), Nat.mod_eq_of_lt (show q < 256 by omega)] at this
        exact this
      have hlk : (newsB (l.take k)).length ≤ 5 * k := by rw [newsB_len, List.length_take]; omega
      go_wp2
      refine wp_region_any hmx ?_
      refine wpAny_tabG (G := (Nat × Value)) (fun g i__ => ([u6, (.pointer (some ⟨w.heap.size, 7, none⟩)), (.slice (some ⟨g', off, none⟩) l.length cap), (.int .i64 (k : Int)), (.pointer (some ⟨g', off + k * 3, none⟩)), (.pointer (some ⟨g', off + k * 3, none⟩)), (.int .i64 (o : Int)), (.int .u8 (o : Int)), (.pointer (some ⟨w.heap.size, 7, none⟩)), (.slice (some ⟨g', off, none⟩) l.length cap), (.int .i64 (k : Int)), (.pointer (some ⟨g', off + k * 3, none⟩)), (.pointer (some ⟨g', off + k * 3 + 2, none⟩)), (.int .i64 (q : Int)), (.int .u8 (q : Int)), (.slice (some ⟨g.1, 0, none⟩) 2 2), g.2, g.2] : List Value).getD i__ undef) (fun g d W => JQw w 1 fr rd 0 (.slice (some ⟨g', off, none⟩) l.length cap) u6 (P ++ newsB (l.take k)) o q g' off l g (d 15) (d 16) W) (by kernel_rfl) ((0, undef)) (show JQw w 1 fr rd 0 (.slice (some ⟨g', off, none⟩) l.length cap) u6 (P ++ newsB (l.take k)) o q g' off l (0, undef) false false _ from ⟨hS.rb.below (Below.refl _ _).drew, hS.be.trans (Below.refl _ _).drew, hS.sz, hat.carry hgl (hS.be.trans (Below.refl _ _).drew), hS.ow.out, fun e => by cases e⟩) ?step2 ?fin2
      case step2 =>
        intro i o ho
        have hi : i < 18 := getElem?_lt ho
        match i, hi, ho with
        | 0, _, ho =>
          cases ho
          refine stepG_of (fun g d hdep => ?_)
          exact step_move rfl trivial _ rfl (by kernel_rfl)
        | 1, _, ho =>
          cases ho
          refine stepG_of (fun g d hdep => ?_)
          exact step_fieldAddr rfl trivial _ _ _ _ rfl rfl (fun w hw => field_rb _ w)
        | 2, _, ho =>
          cases ho
          refine stepG_of (fun g d hdep => ?_)
          exact step_load rfl trivial _ _ _ rfl rfl (fun w hw => load_rb hw.rb)
        | 3, _, ho =>
          cases ho
          refine stepG_of (fun g d hdep => ?_)
          exact step_move rfl trivial _ rfl (by kernel_rfl)
        | 4, _, ho =>
          cases ho
          refine stepG_of (fun g d hdep => ?_)
          exact step_indexAddr rfl trivial _ _ _ _ _ rfl rfl rfl (fun w hw => idx_n g' off l.length cap k hkl w)
        | 5, _, ho =>
          cases ho
          refine stepG_of (fun g d hdep => ?_)
          exact step_fieldAddr rfl trivial _ _ _ _ rfl rfl (fun w hw => field_at w _ _)
        | 6, _, ho =>
          cases ho
          refine stepG_of (fun g d hdep => ?_)
          exact step_load rfl trivial _ _ _ rfl rfl (fun w hw => load_of hw.nt hx)
        | 7, _, ho =>
          cases ho
          refine stepG_of (fun g d hdep => ?_)
          exact step_convert rfl trivial _ _ _ _ rfl rfl (fun w hw => conv8 o ho256 w)
        | 8, _, ho =>
          cases ho
          refine stepG_of (fun g d hdep => ?_)
          exact step_fieldAddr rfl trivial _ _ _ _ rfl rfl (fun w hw => field_rb _ w)
        | 9, _, ho =>
          cases ho
          refine stepG_of (fun g d hdep => ?_)
          exact step_load rfl trivial _ _ _ rfl rfl (fun w hw => load_rb hw.rb)
        | 10, _, ho =>
          cases ho
          refine stepG_of (fun g d hdep => ?_)
          exact step_move rfl trivial _ rfl (by kernel_rfl)
        | 11, _, ho =>
          cases ho
          refine stepG_of (fun g d hdep => ?_)
          exact step_indexAddr rfl trivial _ _ _ _ _ rfl rfl rfl (fun w hw => idx_n g' off l.length cap k hkl w)
        | 12, _, ho =>
          cases ho
          refine stepG_of (fun g d hdep => ?_)
          exact step_fieldAddr rfl trivial _ _ _ _ rfl rfl (fun w hw => field_nt2 _ _ w)
        | 13, _, ho =>
          cases ho
          refine stepG_of (fun g d hdep => ?_)
          exact step_load rfl trivial _ _ _ rfl rfl (fun w hw => load_kd hw.nt hx)
        | 14, _, ho =>
          cases ho
          refine stepG_of (fun g d hdep => ?_)
          exact step_convert rfl trivial _ _ _ _ rfl rfl (fun w hw => conv8 q hq256 w)
        | 15, _, ho =>
          cases ho
          exact stepG_build2w rfl rfl _ _ _ (.int .u8 (o : Int)) (.int .u8 (q : Int)) rfl (fun g => by kernel_rfl) (fun g => by kernel_rfl) (fun g d W hJ hun hcl => by have h16 : d 16 = false := (by cases h : d 16 with | false => rfl | true => exact absurd (hcl 16 _ rfl h 15 (by kernel_rfl)) (by rw [hun]; simp)); have hJ' := hJ; rw [hun, h16] at hJ'; refine ⟨(W.heap.size, g.2), _, bs2 _ _ _, (fun j hj => match j, hj with | 15, hj => (by rw [hj] at hun; cases hun)  | 0, _ => rfl | 1, _ => rfl | 2, _ => rfl | 3, _ => rfl | 4, _ => rfl | 5, _ => rfl | 6, _ => rfl | 7, _ => rfl | 8, _ => rfl | 9, _ => rfl | 10, _ => rfl | 11, _ => rfl | 12, _ => rfl | 13, _ => rfl | 14, _ => rfl | 16, _ => rfl | 17, _ => rfl | _ + 18, _ => rfl), ?_⟩; show JQw w 1 fr rd 0 (.slice (some ⟨g', off, none⟩) l.length cap) _ _ o q g' off l _ true (d 16) _; rw [h16]; exact hJ'.build hgl)
        | 16, _, ho =>
          cases ho
          exact stepG_append rfl rfl _ _ _ (fun _ => u6) (fun g => .slice (some ⟨g.1, 0, none⟩) 2 2) rfl (fun g => by kernel_rfl) (fun g => by kernel_rfl) (fun g d W hJ hun hdep hcl => by have h15 : d 15 = true := hdep 15 (by kernel_rfl); have hJ' := hJ; rw [h15, hun] at hJ'; obtain ⟨v', W', hr, hA⟩ := hJ'.app hgl 47 (by have := hS.ln; simpa using this); refine ⟨(g.1, v'), W', hr, (fun j hj => match j, hj with | 16, hj => (by rw [hj] at hun; cases hun) | 17, hj => absurd ((hcl 17 _ rfl hj 16 (by kernel_rfl))) (by rw [hun]; simp) | 0, _ => rfl | 1, _ => rfl | 2, _ => rfl | 3, _ => rfl | 4, _ => rfl | 5, _ => rfl | 6, _ => rfl | 7, _ => rfl | 8, _ => rfl | 9, _ => rfl | 10, _ => rfl | 11, _ => rfl | 12, _ => rfl | 13, _ => rfl | 14, _ => rfl | 15, _ => rfl | _ + 18, _ => rfl), ?_⟩; show JQw w 1 fr rd 0 (.slice (some ⟨g', off, none⟩) l.length cap) _ _ o q g' off l _ (d 15) true _; rw [h15]; exact hA)
        | 17, _, ho =>
          cases ho
          refine stepG_of (fun g d hdep => ?_)
          exact step_assign rfl trivial _ rfl (by kernel_rfl) (fun _ h => h)
      intro g d W hall hW
      first | refine hK _ _ ?_ | refine (‹∀ (a : Act) (w : World), Code.wp Tryz.prog _ _ a w → _›) _ _ ?_ | skip
      simp only [finL, List.getD_cons_zero, List.getD_cons_succ, Nat.zero_add, Nat.reduceAdd, List.setIfInBounds_toArray, List.set_cons_zero, List.set_cons_succ]
      rw [hall 15 (by decide), hall 16 (by decide)] at hW
      have hS2 : SR w 1 fr rd 0 (.slice (some ⟨g', off, none⟩) l.length cap) g.2 (P ++ newsB (l.take k) ++ [o, q]) W := ⟨hW.rb, hW.be, hW.sz, (by unfold OwB; rw [cB_app, List.length_append]; exact hW.ow), (by simp; omega)⟩
      have hnt := hW.nt
      clear hW hall d0 d1 d2 d3 d4 d5 d6 d7
      obtain ⟨d0, d1, d2, d3, d4, d5, d6, d7⟩ := hS2.rb.cells
      obtain ⟨x0, x1, x2⟩ := hnt k _ hx
      dsimp only at x0 x1 x2
      clear hat hx hnt v1 v2 v3 v4 v5 v6
      go_wp2_with (go_at_call 64; refine (rnumber_any (w.heap.size + 1) _ _ t 3 _ hS2.sz hS2.ow (by have := hS2.ln; omega) (by omega)).mono ?_; rintro e u3 ⟨b3, rfl, ho3, hb3⟩; have hS3 := hS2.step hb3 ho3 (by simp [numB_len]; omega))
      go_roundw
      case rel => exact ⟨k + 1, by simp, by omega, by rw [HX.out, ← List.append_assoc, ← List.append_assoc]; exact hS3⟩
      case measure => simp [vnatW]; omega
    · have hkk : k = l.length := by omega
      subst hkk
      rw [List.take_length, ← HP.out] at hS
      have hki : ¬ ((l.length : Int) < (l.length : Int)) := by omega
      obtain ⟨ad2, cap2, rfl, hrb⟩ := RdB.own hS.ow.out
      have hsum := rSum_any ad2 cap2 (frm 1 n fr rd.toNat 0 l) wr hrb (frm_byt _ _ _ _ _ _) (by have := hS.ln; omega)
      have hadd := rnumber_any (w.heap.size + 1) _ _ (sumV (frm 1 n fr rd.toNat 0 l)) 4 wr hS.sz hS.ow (by have := hS.ln; omega) (by omega)
      have HB : Hid (byt7 1 n fr rd.toNat 0 l = frm 1 n fr rd.toNat 0 l ++ numB (sumV (frm 1 n fr rd.toNat 0 l)) 4) := rfl
      generalize sumV (frm 1 n fr rd.toNat 0 l) = SV at *
      generalize frm 1 n fr rd.toNat 0 l = FM at *
      have hbe := hS.be
      clear hS hrb HP
      go_wp2_with (first | (go_at_call 66; refine hsum.mono ?_; rintro e u ⟨rfl, hu⟩; rw [hu]; clear hu u) | (go_at_call 64; refine hadd.mono ?_; rintro e u3 ⟨b3, rfl, ho3, hb3⟩))
      go_ret2
      exact ⟨_, rfl, by rw [HB.out]; exact ownsRow_base ho3 (Nat.le_succ _), hbe.trans (hb3.mono (Nat.le_succ _))⟩
set_option maxHeartbeats 4000000 in
set_option maxRecDepth 100000 in
theorem rb2_no (n fr rd : Int) (N : Nat) (hN : N < S128) (ad : Option Addr) (cap : Nat) (l : List (Int × Int × Int)) (w : World) (h : RdN w ad l) (hl : l.length ≤ 6000000000000) (hf : ¬ flt 2 n fr rd N l = 0) : Calls Tryz.prog 38 #[.agg #[.int .i64 2, .int .i64 fr, .int .i64 rd, .int .u32 (wd N 0 : Nat), .int .u32 (wd N 1 : Nat), .int .u32 (wd N 2 : Nat), .int .u32 (wd N 3 : Nat), .slice ad l.length cap], .int .i64 n] w (BO 2 n fr rd N l w) := by
  have hbW := al1' w (.cells #[.int .i64 2, .int .i64 fr, .int .i64 rd, .int .u32 (wd N 0 : Nat), .int .u32 (wd N 1 : Nat), .int .u32 (wd N 2 : Nat), .int .u32 (wd N 3 : Nat), .slice ad l.length cap] 27)
  have hRB : RB (w.alloc (.cells #[.int .i64 2, .int .i64 fr, .int .i64 rd, .int .u32 (wd N 0 : Nat), .int .u32 (wd N 1 : Nat), .int .u32 (wd N 2 : Nat), .int .u32 (wd N 3 : Nat), .slice ad l.length cap] 27)) w.heap.size 2 fr rd N (.slice ad l.length cap) := new_at rfl
  have hrW := h.carry hbW
  obtain ⟨W0, hW0⟩ : ∃ W0, w.alloc (.cells #[.int .i64 2, .int .i64 fr, .int .i64 rd, .int .u32 (wd N 0 : Nat), .int .u32 (wd N 1 : Nat), .int .u32 (wd N 2 : Nat), .int .u32 (wd N 3 : Nat), .slice ad l.length cap] 27) = W0 := ⟨_, rfl⟩
  rw [hW0] at hbW hRB hrW
  obtain ⟨d0, d1, d2, d3, d4, d5, d6, d7⟩ := hRB.cells
  by_cases g1 : n < 1
  · have HF : Hid (flt 2 n fr rd N l = 1) := if_pos (by omega)
    clear hf
    go_enter Tryz.func38, Tryz.ntmps38
    go_wp2
    go_ret2
    exact bo_err HF.out (by decide) hbW
  by_cases g2 : 100 < n
  · have HF : Hid (flt 2 n fr rd N l = 1) := if_pos (by omega)
    clear hf
    go_enter Tryz.func38, Tryz.ntmps38
    go_wp2
    go_ret2
    exact bo_err HF.out (by decide) hbW
  by_cases g3 : fr < 0
  · have HF : Hid (flt 2 n fr rd N l = 72) := (if_neg (by omega)).trans (if_pos (by omega))
    clear hf
    go_enter Tryz.func38, Tryz.ntmps38
    go_wp2
    go_ret2
    exact bo_err HF.out (by decide) hbW
  by_cases g4 : n ≤ fr
  · have HF : Hid (flt 2 n fr rd N l = 72) := (if_neg (by omega)).trans (if_pos (by omega))
    clear hf
    go_enter Tryz.func38, Tryz.ntmps38
    go_wp2
    go_ret2
    exact bo_err HF.out (by decide) hbW
  by_cases g5 : rd < 1
  · have HF : Hid (flt 2 n fr rd N l = 73) := (if_neg (by omega)).trans ((if_neg (by omega)).trans (if_pos ⟨by decide, by omega⟩))
    clear hf
    go_enter Tryz.func38, Tryz.ntmps38
    go_wp2
    go_ret2
    exact bo_err HF.out (by decide) hbW
  by_cases g6 : 1099511627775 < rd
  · have HF : Hid (flt 2 n fr rd N l = 73) := (if_neg (by omega)).trans ((if_neg (by omega)).trans (if_pos ⟨by decide, by omega⟩))
    clear hf
    go_enter Tryz.func38, Tryz.ntmps38
    go_wp2
    go_ret2
    exact bo_err HF.out (by decide) hbW
  have hwi := rWithin_any N hN n
  simp only [sv] at hwi
  by_cases g7 : wthB N n = false
  · have HF : Hid (flt 2 n fr rd N l = 74) := (if_neg (by omega)).trans ((if_neg (by omega)).trans ((if_neg (by omega)).trans (if_pos g7)))
    rw [g7] at hwi
    clear hf
    go_enter Tryz.func38, Tryz.ntmps38
    go_wp2_with (go_at_call 62; (with_reducible refine (hwi _).mono ?_); rintro e u0 ⟨rfl, hb0⟩; have hbU0 := bel2 hbW hb0; have hRB0 := hRB.below hb0; have hr0 := hrW.carry hb0; clear d0 d1 d2 d3 d4 d5 d6 d7; obtain ⟨d0, d1, d2, d3, d4, d5, d6, d7⟩ := hRB0.cells)
    go_ret2
    exact bo_err HF.out (by decide) hbU0
  have g7t : wthB N n = true := by simpa using g7
  rw [g7t] at hwi
  have hri := fun W (hW : RdN W ad l) => rRising_any n ad cap l W hW hl
  have g8 : ris n (-1) l = false := by
    by_cases q : ris n (-1) l = false
    · exact q
    · exact absurd ((if_neg (by omega)).trans ((if_neg (by omega)).trans ((if_neg (by omega)).trans ((if_neg (by rw [g7t]; simp)).trans (if_neg q))))) hf
  have HF : Hid (flt 2 n fr rd N l = 75) := (if_neg (by omega)).trans ((if_neg (by omega)).trans ((if_neg (by omega)).trans ((if_neg (by rw [g7t]; simp)).trans (if_pos g8))))
  rw [g8] at hri
  clear hf
  go_enter Tryz.func38, Tryz.ntmps38
  go_wp2_with (first | (go_at_call 62; (with_reducible refine (hwi _).mono ?_); rintro e u0 ⟨rfl, hb0⟩; have hbU0 := bel2 hbW hb0; have hRB0 := hRB.below hb0; have hr0 := hrW.carry hb0; clear d0 d1 d2 d3 d4 d5 d6 d7; obtain ⟨d0, d1, d2, d3, d4, d5, d6, d7⟩ := hRB0.cells) | (go_at_call 63; (with_reducible refine (hri _ hr0).mono ?_); rintro e u1 ⟨rfl, hb1⟩; have hbU1 := bel2 hbU0 hb1))
  go_ret2
  exact bo_err HF.out (by decide) hbU1
set_option maxHeartbeats 8000000 in
set_option maxRecDepth 100000 in
theorem rb2_ok (n fr : Nat) (rd : Int) (N : Nat) (hN : N < S128) (ad : Option Addr) (cap : Nat) (l : List (Int × Int × Int)) (w : World) (h : RdN w ad l) (hf : flt 2 n fr rd N l = 0) : Calls Tryz.prog 38 #[.agg #[.int .i64 2, .int .i64 fr, .int .i64 rd, .int .u32 (wd N 0 : Nat), .int .u32 (wd N 1 : Nat), .int .u32 (wd N 2 : Nat), .int .u32 (wd N 3 : Nat), .slice ad l.length cap], .int .i64 (n : Int)] w fun e w' => ∃ b, e = .returned (.tuple #[b, .int .i64 0]) ∧ OwB w' w.heap.size b (byt7 2 n fr rd.toNat N l) ∧ Below w.heap.size w w' := by
  have hmx : Tryz.prog.follows .mixedOrders = true := by kernel_rfl
  obtain ⟨hn, hfr, hrd, hwt, hri⟩ := flt_0 hf
  have hlen := ris_len n l (-1) (by omega) (by omega) hri
  have hbW := al1' w (.cells #[.int .i64 2, .int .i64 fr, .int .i64 rd, .int .u32 (wd N 0 : Nat), .int .u32 (wd N 1 : Nat), .int .u32 (wd N 2 : Nat), .int .u32 (wd N 3 : Nat), .slice ad l.length cap] 27)
  have hRB : RB (w.alloc (.cells #[.int .i64 2, .int .i64 fr, .int .i64 rd, .int .u32 (wd N 0 : Nat), .int .u32 (wd N 1 : Nat), .int .u32 (wd N 2 : Nat), .int .u32 (wd N 3 : Nat), .slice ad l.length cap] 27)) w.heap.size 2 fr rd N (.slice ad l.length cap) := new_at rfl
  have hrW := h.carry hbW
  obtain ⟨W0, hW0⟩ : ∃ W0, w.alloc (.cells #[.int .i64 2, .int .i64 fr, .int .i64 rd, .int .u32 (wd N 0 : Nat), .int .u32 (wd N 1 : Nat), .int .u32 (wd N 2 : Nat), .int .u32 (wd N 3 : Nat), .slice ad l.length cap] 27) = W0 := ⟨_, rfl⟩
  rw [hW0] at hbW hRB hrW
  obtain ⟨d0, d1, d2, d3, d4, d5, d6, d7⟩ := hRB.cells
  have hriC := fun W (hW : RdN W ad l) => rRising_any n ad cap l W hW (by omega)
  rw [hri] at hriC
  have hwi := rWithin_any N hN n
  rw [hwt] at hwi
  simp only [sv] at hwi
  have hNn : N < 2 ^ n := wth_mod (by omega) hwt
  have hhs : ∀ (k i : Nat) (W : World), Calls Tryz.prog 65 #[.agg #[.int .u32 (wd N 0 : Nat), .int .u32 (wd N 1 : Nat), .int .u32 (wd N 2 : Nat), .int .u32 (wd N 3 : Nat)], .int .i64 (8 * (k : Int) + (i : Int))] W fun e w' => e = .returned (.bool (N.testBit (8 * k + i))) ∧ Below W.heap.size W w' := fun k i W => by
    have := rHas_any N (8 * (k : Int) + (i : Int)) W
    have e : hasB N (8 * (k : Int) + (i : Int)) = N.testBit (8 * k + i) := by
      unfold hasB
      rw [show (8 * (k : Int) + (i : Int)).toNat = 8 * k + i by omega]
      by_cases hk : 8 * k + i < 100
      · rw [decide_eq_true (show 0 ≤ 8 * (k : Int) + (i : Int) ∧ 8 * (k : Int) + (i : Int) < 100 by omega), Bool.true_and]
      · rw [decide_eq_false (show ¬ (0 ≤ 8 * (k : Int) + (i : Int) ∧ 8 * (k : Int) + (i : Int) < 100) by omega), Bool.false_and]
        exact (Nat.testBit_lt_two_pow (Nat.lt_of_lt_of_le hNn (Nat.pow_le_pow_right (by decide) (by omega)))).symm
    rw [e] at this
    simpa only [sv] using this
  obtain ⟨m, hm⟩ : ∃ m, hsz n = m := ⟨_, rfl⟩
  have hmi : ((n : Int) + 7) / 8 = (m : Int) := by unfold hsz at hm; omega
  have hm13 : m ≤ 13 := hm ▸ hsz_le (by omega)
  have hr0 : 0 ≤ rd := by omega
  have har : ∀ (b : Value) (C : List Nat) (u : World), w.heap.size + 1 ≤ u.heap.size → OwB u (w.heap.size + 1) b C → C.length ≤ 100000 → Calls Tryz.prog 64 #[b, .int .i64 rd, .int .i64 5] u fun e w' => ∃ b', e = .returned b' ∧ OwB w' (w.heap.size + 1) b' (C ++ numB rd.toNat 5) ∧ Below (w.heap.size + 1) u w' := fun b C u hb ho hl => by
    have := rnumber_any (w.heap.size + 1) b C rd.toNat 5 u hb ho hl (by omega)
    rw [Int.toNat_of_nonneg hr0] at this
    exact this
  have g5 : ¬ rd < 1 := by omega
  have g6 : ¬ 1099511627775 < rd := by omega
  obtain ⟨ic, hic, hz0, hz1, hz2⟩ := info_partsB
  have hl100 : l.length ≤ 100 := by omega
  have g1 : ¬ (n : Int) < 1 := by omega
  have g2 : ¬ (100 : Int) < (n : Int) := by omega
  have g3 : ¬ (fr : Int) < 0 := by omega
  have g4 : ¬ (n : Int) ≤ (fr : Int) := by omega
  have iN8 : (n : Int) % 256 = (n : Int) := by omega
  have iF8 : (fr : Int) % 256 = (fr : Int) := by omega
  have iL8 : (l.length : Int) % 256 = (l.length : Int) := by omega
  have hB1 := bs1
  have hB2 := bs2
  have hB5 := bs5
  obtain ⟨P, HPl, HP, HQ⟩ : ∃ P : List Nat, P.length ≤ 30 ∧ Hid (frm 2 n fr rd.toNat N l = P ++ newsB l) ∧ Hid (P = [101, 115, 2, n, fr] ++ numB rd.toNat 5 ++ stB N 0 m ++ [l.length]) := by
    refine ⟨[101, 115, 2, n, fr] ++ numB rd.toNat 5 ++ stB N 0 m ++ [l.length], ?_, ?_, rfl⟩
    · simp [numB_len, stB_len]; omega
    · show frm 2 n fr rd.toNat N l = _
      rw [frm, Nat.mod_eq_of_lt (show n < 256 by omega), Nat.mod_eq_of_lt (show fr < 256 by omega), Nat.mod_eq_of_lt (show l.length < 256 by omega)]
      simp [rndB, setB, hm]
  have HL : Hid (RdN w ad l) := h
  have HRI : Hid (ris n (-1) l = true) := hri
  have h13 : l.length + 3 ≤ 103 := by omega
  clear h hwt hri hf hrd hr0 hm hNn
  go_enter Tryz.func38, Tryz.ntmps38
  go_wp2_with (first | (go_at_call 62; (with_reducible refine (hwi _).mono ?_); rintro e u0 ⟨rfl, hb0⟩; have hbU0 := bel2 hbW hb0; have hRB0 := hRB.below hb0; have hr0 := hrW.carry hb0; clear d0 d1 d2 d3 d4 d5 d6 d7; obtain ⟨d0, d1, d2, d3, d4, d5, d6, d7⟩ := hRB0.cells) | (go_at_call 63; (with_reducible refine (hriC _ hr0).mono ?_); rintro e u1 ⟨rfl, hb1⟩; have hbU1 := bel2 hbU0 hb1; have hRB1 := hRB0.below hb1; have hS1 : SR w 2 fr rd N (.slice ad l.length cap) (.slice (some ⟨u1.heap.size, 0, none⟩) 5 5) [101, 115, 2, n, fr] (u1.alloc (.cells #[.int .u8 101, .int .u8 115, .int .u8 2, .int .u8 (n : Int), .int .u8 (fr : Int)] 5)) := ⟨hRB1.below (al1' u1 _), bel2 hbU1 (al1' u1 _), (by have := lt_at hRB1; simp; omega), World.ownsRow_lit (base := w.heap.size + 1) (e := 5) (size := 1) u1 #[.int .u8 101, .int .u8 115, .int .u8 2, .int .u8 (n : Int), .int .u8 (fr : Int)] 5 (lt_at hRB1) (by decide) (by simp), (by simp)⟩; clear d0 d1 d2 d3 d4 d5 d6 d7; obtain ⟨d0, d1, d2, d3, d4, d5, d6, d7⟩ := hRB1.cells; obtain ⟨f0, f1, f2, f3, f4, f5, f6, f7⟩ := hS1.rb.cells) | (go_at_call 64; (with_reducible refine (har _ ([101, 115, 2, n, fr]) _ hS1.sz hS1.ow (by simp)).mono ?_); rintro e u4 ⟨b4, rfl, ho4, hb4⟩; have hS4 : SR w 2 fr rd N (.slice ad l.length cap) b4 ([101, 115, 2, n, fr] ++ numB rd.toNat 5) u4 := hS1.step hb4 ho4 (by simp [numB_len]); clear d0 d1 d2 d3 d4 d5 d6 d7; obtain ⟨d0, d1, d2, d3, d4, d5, d6, d7⟩ := hS4.rb.cells))
  obtain ⟨C0, hC0, HC0⟩ : ∃ C0 : List Nat, C0.length = 10 ∧ Hid (C0 = [101, 115, 2, n, fr] ++ numB rd.toNat 5) := ⟨_, by simp [numB_len], rfl⟩
  have hS5 : SR w 2 fr rd N (.slice ad l.length cap) b4 C0 u4 := HC0.out ▸ hS4
  clear hS4 hS1 hRB hbW hrW hriC hwi har hRB0 hr0 hRB1 d0 d1 d2 d3 d4 d5 d6 d7
  go_loopw [6, 7] (fun b i wz => ∃ (k : Nat) (C : List Nat), i = .int .i64 k ∧ k ≤ m ∧ Hid (C.length = 10 + k) ∧ Hid (C ++ stB N k (m - k) = C0 ++ stB N 0 m) ∧ SR w 2 fr rd N (.slice ad l.length cap) b C wz) (fun _ i _ => m - vnatW i)
  case atStart => exact ⟨0, C0, rfl, Nat.zero_le _, hC0, rfl, hS5⟩
  case round =>
    obtain ⟨k, C, rfl, hk, HCL, HC, hS⟩ := hrel
    have hsw := hS.sz
    obtain ⟨d0, d1, d2, d3, d4, d5, d6, d7⟩ := hS.rb.cells
    by_cases hkl : k < m
    · have hki : (k : Int) < (m : Int) := by omega
      go_wp2
      go_loopw [8, 9] (fun v i wz => ∃ (x j : Nat), v = .int .i64 x ∧ i = .int .i64 j ∧ j ≤ 8 ∧ x < 256 ∧ Hid (x = N / 2 ^ (8 * k) % 2 ^ j) ∧ SR w 2 fr rd N (.slice ad l.length cap) u6 C wz) (fun _ i _ => 8 - vnatW i)
      case atStart => exact ⟨0, 0, rfl, rfl, by omega, by omega, (by show 0 = _; rw [Nat.pow_zero, Nat.mod_one]), hS⟩
      case round =>
        obtain ⟨x, j, rfl, rfl, hj, hx, HX, hSi⟩ := hrel
        clear hmi
        clear d0 d1 d2 d3 d4 d5 d6 d7
        obtain ⟨d0, d1, d2, d3, d4, d5, d6, d7⟩ := hSi.rb.cells
        by_cases hjl : j < 8
        · have hji : (j : Int) < 8 := by omega
          have hc := hhs k j
          have hpb := pre_bits (N := N / 2 ^ (8 * k)) (i := j)
          rw [← HX.out, Nat.testBit_div_two_pow, Nat.add_comm j (8 * k)] at hpb
          have hlt : N / 2 ^ (8 * k) % 2 ^ (j + 1) < 256 := Nat.lt_of_lt_of_le (Nat.mod_lt _ (Nat.two_pow_pos _)) (Nat.pow_le_pow_right (n := 2) (by decide) (show j + 1 ≤ 8 by omega))
          cases hb : N.testBit (8 * k + j) with
          | false =>
            rw [hb] at hc hpb
            have HX2 : Hid (x = N / 2 ^ (8 * k) % 2 ^ (j + 1)) := (by show x = _; simpa using hpb)
            clear hpb hlt HX hb
            go_wp2_with (go_at_call 65; (with_reducible refine (hc _).mono ?_); rintro e ui ⟨rfl, hbi⟩; have hSu := hSi.below hbi)
            go_roundw
            case rel => exact ⟨x, j + 1, rfl, by simp, by omega, hx, HX2, hSu⟩
            case measure => simp [vnatW]; omega
          | true =>
            rw [hb] at hc hpb
            obtain ⟨p, hp⟩ : ∃ p, 2 ^ j = p := ⟨_, rfl⟩
            rw [if_pos rfl, hp] at hpb
            have hpi : (2 : Int) ^ j = (p : Int) := by rw [← hp]; simp
            have hp256 : p ≤ 256 := by rw [← hp]; exact Nat.pow_le_pow_right (n := 2) (by decide) (show j ≤ 8 by omega)
            have hxp : x + p < 256 := by omega
            have HX2 : Hid (x + p = N / 2 ^ (8 * k) % 2 ^ (j + 1)) := hpb
            clear hpb hlt HX hb hp
            go_wp2_with (go_at_call 65; (with_reducible refine (hc _).mono ?_); rintro e ui ⟨rfl, hbi⟩; have hSu := hSi.below hbi)
            go_roundw
            case rel => exact ⟨x + p, j + 1, by simp, by simp, by omega, hxp, HX2, hSu⟩
            case measure => simp [vnatW]; omega
        · have hj8 : j = 8 := by omega
          subst hj8
          have HE : Hid (x = N / 2 ^ (8 * k) % 256) := HX
          obtain ⟨j, hj'⟩ : ∃ j, m - k = j + 1 := ⟨m - k - 1, by omega⟩
          have HN : Hid ((C ++ [x]) ++ stB N (k + 1) (m - (k + 1)) = C0 ++ stB N 0 m) := by
            show (C ++ [x]) ++ stB N (k + 1) (m - (k + 1)) = C0 ++ stB N 0 m
            rw [← HC.out, hj', stB, List.append_assoc, HE.out, show m - (k + 1) = j by omega]
            rfl
          have ix8 : (x : Int) % 256 = (x : Int) := by omega
          have HC2 : Hid (C.length = 10 + k) := HCL
          clear HX HE hj' HC HCL
          go_wp2_with (at_builtin; refine wpList_append_own_at _ rfl _ _ 47 rfl (w.heap.size + 1) 5 ic _ 1 1 Tryz.underlying47 hic hz0 hz1 hz2 rfl (by decide) _ (C).length (cB (C)) rfl (World.ownsRow.alloc (OwB.out hSi.ow) _) ⟨wr.heap.size, 0, none⟩ 1 1 [_] rfl rfl (rowN _ #[_] _) (by simp [Value.oneCell']) (by have := hSi.ln; unfold maxLen; omega) (by have := hSi.ln; omega) (by have := hSi.sz; first | (simp; omega) | (simp at this ⊢; omega)) ?_; intro b' zx hown' hgrow _ hob; have hSx := SR.app [x] hSi hgrow hown' (by have := HC2.out; simp; omega); clear hown' hgrow hob)
          go_roundw
          case rel => exact ⟨k + 1, C ++ [x], by simp, by omega, (by show (C ++ [x]).length = 10 + (k + 1); have := HC2.out; simp; omega), HN, hSx⟩
          case measure => simp [vnatW]; omega
    · have hkk : k = m := by omega
      subst hkk
      have hki : ¬ ((k : Int) < (k : Int)) := by omega
      have HE : Hid (C = C0 ++ stB N 0 k) := by have := HC.out; rw [Nat.sub_self, stB, List.append_nil] at this; exact this
      have HCL' : Hid (C.length = 10 + k) := HCL
      clear HC HCL hS5
      go_wp2_with (at_builtin; refine wpList_append_own_at _ rfl _ _ 47 rfl (w.heap.size + 1) 5 ic _ 1 1 Tryz.underlying47 hic hz0 hz1 hz2 rfl (by decide) _ (C).length (cB (C)) rfl (World.ownsRow.alloc (OwB.out hS.ow) _) ⟨wr.heap.size, 0, none⟩ 1 1 [_] rfl rfl (rowN _ #[_] _) (by simp [Value.oneCell']) (by have := hS.ln; unfold maxLen; omega) (by have := hS.ln; omega) (by have := hS.sz; first | (simp; omega) | (simp at this ⊢; omega)) ?_; intro b' z6 hown' hgrow _ hob; have hS6 := SR.app [l.length] hS hgrow hown' (by have := HCL'.out; simp; omega); clear hown' hgrow hob; obtain ⟨d0, d1, d2, d3, d4, d5, d6, d7⟩ := hS6.rb.cells)
      have hS7 : SR w 2 fr rd N (.slice ad l.length cap) b' P z6 := by
        have := hS6
        rw [HE.out, HC0.out] at this
        exact HQ.out ▸ this
      clear hS6 hS HQ
      go_loopw [6, 10] (fun b i wz => ∃ (k : Nat), i = .int .i64 k ∧ k ≤ l.length ∧ SR w 2 fr rd N (.slice ad l.length cap) b (P ++ newsB (l.take k)) wz) (fun _ i _ => l.length - vnatW i)
      case atStart => exact ⟨0, rfl, Nat.zero_le _, by simpa [newsB] using hS7⟩
      case round =>
        obtain ⟨k, rfl, hk, hS⟩ := hrel
        clear hS7 d0 d1 d2 d3 d4 d5 d6 d7
        obtain ⟨d0, d1, d2, d3, d4, d5, d6, d7⟩ := hS.rb.cells
        have hsw := hS.sz
        by_cases hkl : k < l.length
        · have hki : (k : Int) < (l.length : Int) := by omega
          obtain ⟨⟨o, t, q⟩, hx⟩ : ∃ x, l[k]? = some x := ⟨_, List.getElem?_eq_getElem hkl⟩
          obtain ⟨v1, v2, v3, v4, v5, v6⟩ := vl_bounds (ris_get HRI.out hx)
          dsimp only at v1 v2 v3 v4 v5 v6
          obtain ⟨o, rfl⟩ := Int.eq_ofNat_of_zero_le v1
          obtain ⟨t, rfl⟩ := Int.eq_ofNat_of_zero_le v3
          obtain ⟨q, rfl⟩ := Int.eq_ofNat_of_zero_le (show 0 ≤ q by omega)
          obtain ⟨g', off, rfl, hgl, hat⟩ := HL.out (fun e => by subst e; simp at hkl)
          have ho256 : o < 256 := by omega
          have hq256 : q < 256 := by omega
          have HX : Hid (newsB (l.take (k + 1)) = newsB (l.take k) ++ [o, q] ++ numB t 3) := by
            have := newsB_step l k _ _ _ hx
            rw [Int.toNat_natCast, Int.toNat_natCast, Int.toNat_natCast, Nat.mod_eq_of_lt (show o < 256 by omega), Nat.mod_eq_of_lt (show q < 256 by omega)] at this
            exact this
          have hlk : (newsB (l.take k)).length ≤ 5 * k := by rw [newsB_len, List.length_take]; omega
          go_wp2
          refine wp_region_any hmx ?_
          refine wpAny_tabG (G := (Nat × Value)) (fun g i__ => ([u6, (.pointer (some ⟨w.heap.size, 7, none⟩)), (.slice (some ⟨g', off, none⟩) l.length cap), (.int .i64 (k : Int)), (.pointer (some ⟨g', off + k * 3, none⟩)), (.pointer (some ⟨g', off + k * 3, none⟩)), (.int .i64 (o : Int)), (.int .u8 (o : Int)), (.pointer (some ⟨w.heap.size, 7, none⟩)), (.slice (some ⟨g', off, none⟩) l.length cap), (.int .i64 (k : Int)), (.pointer (some ⟨g', off + k * 3, none⟩)), (.pointer (some ⟨g', off + k * 3 + 2, none⟩)), (.int .i64 (q : Int)), (.int .u8 (q : Int)), (.slice (some ⟨g.1, 0, none⟩) 2 2), g.2, g.2] : List Value).getD i__ undef) (fun g d W => JQw w 2 fr rd N (.slice (some ⟨g', off, none⟩) l.length cap) u6 (P ++ newsB (l.take k)) o q g' off l g (d 15) (d 16) W) (by kernel_rfl) ((0, undef)) (show JQw w 2 fr rd N (.slice (some ⟨g', off, none⟩) l.length cap) u6 (P ++ newsB (l.take k)) o q g' off l (0, undef) false false _ from ⟨hS.rb.below (Below.refl _ _).drew, hS.be.trans (Below.refl _ _).drew, hS.sz, hat.carry hgl (hS.be.trans (Below.refl _ _).drew), hS.ow.out, fun e => by cases e⟩) ?step3 ?fin3
          case step3 =>
            intro i o ho
            have hi : i < 18 := getElem?_lt ho
            match i, hi, ho with
            | 0, _, ho =>
              cases ho
              refine stepG_of (fun g d hdep => ?_)
              exact step_move rfl trivial _ rfl (by kernel_rfl)
            | 1, _, ho =>
              cases ho
              refine stepG_of (fun g d hdep => ?_)
              exact step_fieldAddr rfl trivial _ _ _ _ rfl rfl (fun w hw => field_rb _ w)
            | 2, _, ho =>
              cases ho
              refine stepG_of (fun g d hdep => ?_)
              exact step_load rfl trivial _ _ _ rfl rfl (fun w hw => load_rb hw.rb)
            | 3, _, ho =>
              cases ho
              refine stepG_of (fun g d hdep => ?_)
              exact step_move rfl trivial _ rfl (by kernel_rfl)
            | 4, _, ho =>
              cases ho
              refine stepG_of (fun g d hdep => ?_)
              exact step_indexAddr rfl trivial _ _ _ _ _ rfl rfl rfl (fun w hw => idx_n g' off l.length cap k hkl w)
            | 5, _, ho =>
              cases ho
              refine stepG_of (fun g d hdep => ?_)
              exact step_fieldAddr rfl trivial _ _ _ _ rfl rfl (fun w hw => field_at w _ _)
            | 6, _, ho =>
              cases ho
              refine stepG_of (fun g d hdep => ?_)
              exact step_load rfl trivial _ _ _ rfl rfl (fun w hw => load_of hw.nt hx)
            | 7, _, ho =>
              cases ho
              refine stepG_of (fun g d hdep => ?_)
              exact step_convert rfl trivial _ _ _ _ rfl rfl (fun w hw => conv8 o ho256 w)
            | 8, _, ho =>
              cases ho
              refine stepG_of (fun g d hdep => ?_)
              exact step_fieldAddr rfl trivial _ _ _ _ rfl rfl (fun w hw => field_rb _ w)
            | 9, _, ho =>
              cases ho
              refine stepG_of (fun g d hdep => ?_)
              exact step_load rfl trivial _ _ _ rfl rfl (fun w hw => load_rb hw.rb)
            | 10, _, ho =>
              cases ho
              refine stepG_of (fun g d hdep => ?_)
              exact step_move rfl trivial _ rfl (by kernel_rfl)
            | 11, _, ho =>
              cases ho
              refine stepG_of (fun g d hdep => ?_)
              exact step_indexAddr rfl trivial _ _ _ _ _ rfl rfl rfl (fun w hw => idx_n g' off l.length cap k hkl w)
            | 12, _, ho =>
              cases ho
              refine stepG_of (fun g d hdep => ?_)
              exact step_fieldAddr rfl trivial _ _ _ _ rfl rfl (fun w hw => field_nt2 _ _ w)
            | 13, _, ho =>
              cases ho
              refine stepG_of (fun g d hdep => ?_)
              exact step_load rfl trivial _ _ _ rfl rfl (fun w hw => load_kd hw.nt hx)
            | 14, _, ho =>
              cases ho
              refine stepG_of (fun g d hdep => ?_)
              exact step_convert rfl trivial _ _ _ _ rfl rfl (fun w hw => conv8 q hq256 w)
            | 15, _, ho =>
              cases ho
              exact stepG_build2w rfl rfl _ _ _ (.int .u8 (o : Int)) (.int .u8 (q : Int)) rfl (fun g => by kernel_rfl) (fun g => by kernel_rfl) (fun g d W hJ hun hcl => by have h16 : d 16 = false := (by cases h : d 16 with | false => rfl | true => exact absurd (hcl 16 _ rfl h 15 (by kernel_rfl)) (by rw [hun]; simp)); have hJ' := hJ; rw [hun, h16] at hJ'; refine ⟨(W.heap.size, g.2), _, bs2 _ _ _, (fun j hj => match j, hj with | 15, hj => (by rw [hj] at hun; cases hun)  | 0, _ => rfl | 1, _ => rfl | 2, _ => rfl | 3, _ => rfl | 4, _ => rfl | 5, _ => rfl | 6, _ => rfl | 7, _ => rfl | 8, _ => rfl | 9, _ => rfl | 10, _ => rfl | 11, _ => rfl | 12, _ => rfl | 13, _ => rfl | 14, _ => rfl | 16, _ => rfl | 17, _ => rfl | _ + 18, _ => rfl), ?_⟩; show JQw w 2 fr rd N (.slice (some ⟨g', off, none⟩) l.length cap) _ _ o q g' off l _ true (d 16) _; rw [h16]; exact hJ'.build hgl)
            | 16, _, ho =>
              cases ho
              exact stepG_append rfl rfl _ _ _ (fun _ => u6) (fun g => .slice (some ⟨g.1, 0, none⟩) 2 2) rfl (fun g => by kernel_rfl) (fun g => by kernel_rfl) (fun g d W hJ hun hdep hcl => by have h15 : d 15 = true := hdep 15 (by kernel_rfl); have hJ' := hJ; rw [h15, hun] at hJ'; obtain ⟨v', W', hr, hA⟩ := hJ'.app hgl 47 (by have := hS.ln; simpa using this); refine ⟨(g.1, v'), W', hr, (fun j hj => match j, hj with | 16, hj => (by rw [hj] at hun; cases hun) | 17, hj => absurd ((hcl 17 _ rfl hj 16 (by kernel_rfl))) (by rw [hun]; simp) | 0, _ => rfl | 1, _ => rfl | 2, _ => rfl | 3, _ => rfl | 4, _ => rfl | 5, _ => rfl | 6, _ => rfl | 7, _ => rfl | 8, _ => rfl | 9, _ => rfl | 10, _ => rfl | 11, _ => rfl | 12, _ => rfl | 13, _ => rfl | 14, _ => rfl | 15, _ => rfl | _ + 18, _ => rfl), ?_⟩; show JQw w 2 fr rd N (.slice (some ⟨g', off, none⟩) l.length cap) _ _ o q g' off l _ (d 15) true _; rw [h15]; exact hA)
            | 17, _, ho =>
              cases ho
              refine stepG_of (fun g d hdep => ?_)
              exact step_assign rfl trivial _ rfl (by kernel_rfl) (fun _ h => h)
          intro g d W hall hW
          first | refine hK _ _ ?_ | refine (‹∀ (a : Act) (w : World), Code.wp Tryz.prog _ _ a w → _›) _ _ ?_ | skip
          simp only [finL, List.getD_cons_zero, List.getD_cons_succ, Nat.zero_add, Nat.reduceAdd, List.setIfInBounds_toArray, List.set_cons_zero, List.set_cons_succ]
          rw [hall 15 (by decide), hall 16 (by decide)] at hW
          have hS2 : SR w 2 fr rd N (.slice (some ⟨g', off, none⟩) l.length cap) g.2 (P ++ newsB (l.take k) ++ [o, q]) W := ⟨hW.rb, hW.be, hW.sz, (by unfold OwB; rw [cB_app, List.length_append]; exact hW.ow), (by simp; omega)⟩
          have hnt := hW.nt
          clear hW hall d0 d1 d2 d3 d4 d5 d6 d7
          obtain ⟨d0, d1, d2, d3, d4, d5, d6, d7⟩ := hS2.rb.cells
          obtain ⟨x0, x1, x2⟩ := hnt k _ hx
          dsimp only at x0 x1 x2
          clear hat hx hnt v1 v2 v3 v4 v5 v6
          go_wp2_with (go_at_call 64; refine (rnumber_any (w.heap.size + 1) _ _ t 3 _ hS2.sz hS2.ow (by have := hS2.ln; omega) (by omega)).mono ?_; rintro e u3 ⟨b3, rfl, ho3, hb3⟩; have hS3 := hS2.step hb3 ho3 (by simp [numB_len]; omega))
          go_roundw
          case rel => exact ⟨k + 1, by simp, by omega, by rw [HX.out, ← List.append_assoc, ← List.append_assoc]; exact hS3⟩
          case measure => simp [vnatW]; omega
        · have hkk : k = l.length := by omega
          subst hkk
          rw [List.take_length, ← HP.out] at hS
          have hki : ¬ ((l.length : Int) < (l.length : Int)) := by omega
          obtain ⟨ad2, cap2, rfl, hrb⟩ := RdB.own hS.ow.out
          have hsum := rSum_any ad2 cap2 (frm 2 n fr rd.toNat N l) wr hrb (frm_byt _ _ _ _ _ _) (by have := hS.ln; omega)
          have hadd := rnumber_any (w.heap.size + 1) _ _ (sumV (frm 2 n fr rd.toNat N l)) 4 wr hS.sz hS.ow (by have := hS.ln; omega) (by omega)
          have HB : Hid (byt7 2 n fr rd.toNat N l = frm 2 n fr rd.toNat N l ++ numB (sumV (frm 2 n fr rd.toNat N l)) 4) := rfl
          generalize sumV (frm 2 n fr rd.toNat N l) = SV at *
          generalize frm 2 n fr rd.toNat N l = FM at *
          have hbe := hS.be
          clear hS hrb HP
          go_wp2_with (first | (go_at_call 66; refine hsum.mono ?_; rintro e u ⟨rfl, hu⟩; rw [hu]; clear hu u) | (go_at_call 64; refine hadd.mono ?_; rintro e u3 ⟨b3, rfl, ho3, hb3⟩))
          go_ret2
          exact ⟨_, rfl, by rw [HB.out]; exact ownsRow_base ho3 (Nat.le_succ _), hbe.trans (hb3.mono (Nat.le_succ _))⟩
theorem bo_good {kd n fr : Nat} {rd : Int} {N : Nat} {l : List (Int × Int × Int)} {w w' : World} {e : Ending} (hf : flt kd n fr rd N l = 0) (h : ∃ b, e = .returned (.tuple #[b, .int .i64 0]) ∧ OwB w' w.heap.size b (byt7 kd n fr rd.toNat N l) ∧ Below w.heap.size w w') : BO kd n fr rd N l w e w' := by
  obtain ⟨b, rfl, h1, h2⟩ := h
  refine ⟨b, by rw [hf], ?_, h2⟩
  rw [fb7, if_pos hf]
  exact h1
theorem rbytes_any (kd : Nat) (hk : 1 ≤ kd ∧ kd ≤ 3) (n fr r : Int) (N : Nat) (hN : N < S128) (h3 : kd = 3 → r = 0) (h2 : kd ≠ 2 → N = 0) (ad : Option Addr) (cap : Nat) (l : List (Int × Int × Int)) (w : World) (h : RdN w ad l) (hl : l.length ≤ 6000000000000) : Calls Tryz.prog 38 #[rnv kd fr r N (.slice ad l.length cap), .int .i64 n] w (BO kd n fr r N l w) := by
  unfold rnv
  by_cases hf : flt kd n fr r N l = 0
  · obtain ⟨hn, hfr, _⟩ := flt_0 hf
    obtain ⟨n, rfl⟩ := Int.eq_ofNat_of_zero_le (show 0 ≤ n by omega)
    obtain ⟨fr, rfl⟩ := Int.eq_ofNat_of_zero_le hfr.1
    rcases (show kd = 1 ∨ kd = 2 ∨ kd = 3 by omega) with rfl | rfl | rfl
    · obtain rfl : N = 0 := h2 (by decide)
      exact (rb1_ok n fr r ad cap l w h hf).mono (fun e w' q => bo_good hf q)
    · exact (rb2_ok n fr r N hN ad cap l w h hf).mono (fun e w' q => bo_good hf q)
    · obtain rfl : N = 0 := h2 (by decide)
      obtain rfl : r = 0 := h3 rfl
      exact (rb3_ok n fr ad cap l w h hf).mono (fun e w' q => bo_good hf q)
  · rcases (show kd = 1 ∨ kd = 2 ∨ kd = 3 by omega) with rfl | rfl | rfl
    · obtain rfl : N = 0 := h2 (by decide)
      exact rb1_no n fr r ad cap l w h hl hf
    · exact rb2_no n fr r N hN ad cap l w h hl hf
    · obtain rfl : N = 0 := h2 (by decide)
      obtain rfl : r = 0 := h3 rfl
      exact rb3_no n fr ad cap l w h hl hf
end Go.Proofs.YtnkpohkodkjkfaaGreatDoor
namespace Go.Proofs.YtnkpohkodkjkfaaGreatDoor
open Go.RowKit Go.Shelf Go.Lib

theorem jn_snocL : ∀ (l : List ByteArray) (x : ByteArray), l ≠ [] → (jnB (l ++ [x])).data.toList = (jnB l).data.toList ++ (32 :: x.data.toList)
  | [], _, h => absurd rfl h
  | [a], x, _ => by
    show (jnB [a, x]).data.toList = _
    rw [join_two, join_last, join_last]
  | a :: b :: r, x, _ => by
    have ih := jn_snocL (b :: r) x (by simp)
    show (jnB (a :: b :: (r ++ [x]))).data.toList = _
    rw [join_two, join_two]
    have e : (jnB (b :: (r ++ [x]))).data.toList = _ := ih
    rw [e]
    simp
/-- The text while notices are told. -/
def bdT (S : ByteArray) (L : List Int) (ns : List N3t) (k : Nat) : ByteArray := S ++ jnB ((ns.take k).map (ntT L))
theorem bd_0 (S : ByteArray) (L : List Int) (ns : List N3t) : bdT S L ns 0 = S := by
  apply ByteArray.ext
  apply Array.toList_inj.1
  unfold bdT
  rw [ByteArray.data_append, Array.toList_append]
  have e : (jnB ((ns.take 0).map (ntT L))).data.toList = [] := rfl
  rw [e, List.append_nil]
theorem bd_1 {S : ByteArray} {L : List Int} {ns : List N3t} {x : N3t} (h : ns[0]? = some x) : S ++ ntT L x = bdT S L ns 1 := by
  unfold bdT
  congr 1
  have e : ns.take 1 = [x] := by rw [List.take_add_one, h]; rfl
  rw [e]
  apply ByteArray.ext
  apply Array.toList_inj.1
  show _ = (jnB [_]).data.toList
  rw [join_last]
theorem bd_s {S : ByteArray} {L : List Int} {ns : List N3t} {x : N3t} {k : Nat} (h0 : k ≠ 0) (h : ns[k]? = some x) : (bdT S L ns k ++ ⟨#[32]⟩) ++ ntT L x = bdT S L ns (k + 1) := by
  have hk := (List.getElem?_eq_some_iff.1 h).1
  unfold bdT
  apply ByteArray.ext
  apply Array.toList_inj.1
  have e : ns.take (k + 1) = ns.take k ++ [x] := by rw [List.take_add_one, h]; rfl
  rw [e, List.map_append]
  have e2 := jn_snocL ((ns.take k).map (ntT L)) (ntT L x) (fun e => by
    have := congrArg List.length e
    rw [List.length_map, List.length_take, List.length_nil] at this
    omega)
  simp only [ByteArray.data_append, Array.toList_append]
  rw [show List.map (ntT L) [x] = [ntT L x] from rfl, e2]
  simp
theorem bd_size {S : ByteArray} {L : List Int} {ns : List N3t} (hv : ∀ x ∈ ns, vN L x) (hn : ns.length ≤ 1000) (k : Nat) : (bdT S L ns k).size ≤ S.size + 100000 := by
  unfold bdT
  rw [ByteArray.size_append]
  have := nw_short (L := L) (ns := ns.take k) (fun x hx => hv x (List.mem_of_mem_take hx)) (by rw [List.length_take]; omega)
  omega
theorem bd_all (S : ByteArray) (L : List Int) (ns : List N3t) : bdT S L ns ns.length = S ++ jnB (ns.map (ntT L)) := by
  unfold bdT
  rw [List.take_length]
theorem sg_txt (c : Int) : (⟨(Utf8.encode c).data.toList.toArray⟩ : ByteArray) = txt [c] := by
  apply ByteArray.ext
  apply Array.toList_inj.1
  rw [txt_data, wr_one]
theorem it_nat (n : Nat) : Lib.itoa (n : Int) = decDigits n := by
  unfold Lib.itoa
  rw [if_neg (by omega), Int.toNat_natCast]
theorem fin_q (L : List Int) (f rd N : Nat) (ns : List N3t) : ((((((⟨#[113, 117, 101, 114, 121]⟩ : ByteArray) ++ ⟨#[32]⟩) ++ txt [L.getD f 0]) ++ ⟨#[32]⟩) ++ ⟨(decDigits rd).toArray⟩) ++ ⟨#[32, 91]⟩) ++ jnB (ns.map (ntT L)) ++ ⟨#[93]⟩ = txt (pcR (noteP L 1 (f : Int) rd N ns)) := by
  have h := told_q L f (rd : Int) (by omega) N ns
  rw [Int.toNat_natCast, it_nat] at h
  rw [← h]
  apply ByteArray.ext
  apply Array.toList_inj.1
  show _ = (jnB [_, _, _, _]).data.toList
  rw [join_two, join_two, join_two, join_last, ← nwT_eq]
  simp [ByteArray.data_append]
theorem fin_u (L : List Int) (f : Nat) (N : Nat) (ns : List N3t) : ((((⟨#[114, 117, 109, 111, 114]⟩ : ByteArray) ++ ⟨#[32]⟩) ++ txt [L.getD f 0]) ++ ⟨#[32, 91]⟩) ++ jnB (ns.map (ntT L)) ++ ⟨#[93]⟩ = txt (pcR (noteP L 3 (f : Int) 0 N ns)) := by
  have h := told_u L f 0 N ns
  rw [show (0 : Int).toNat = 0 from rfl] at h
  rw [← h]
  apply ByteArray.ext
  apply Array.toList_inj.1
  show _ = (jnB [_, _, _]).data.toList
  rw [join_two, join_two, join_last, ← nwT_eq]
  simp [ByteArray.data_append]
theorem fin_p (L : List Int) (f rd N : Nat) (hw : wthB N L.length = true) (ns : List N3t) : ((((((((⟨#[114, 101, 112, 108, 121]⟩ : ByteArray) ++ ⟨#[32]⟩) ++ txt [L.getD f 0]) ++ ⟨#[32]⟩) ++ ⟨(decDigits rd).toArray⟩) ++ ⟨#[32]⟩) ++ (prR L N).1) ++ ⟨#[32, 91]⟩) ++ jnB (ns.map (ntT L)) ++ ⟨#[93]⟩ = txt (pcR (noteP L 2 (f : Int) rd N ns)) := by
  have h := told_p L f (rd : Int) (by omega) N hw ns
  rw [Int.toNat_natCast, it_nat] at h
  rw [← h]
  apply ByteArray.ext
  apply Array.toList_inj.1
  show _ = (jnB [_, _, _, _, _]).data.toList
  rw [join_two, join_two, join_two, join_two, join_last, ← nwT_eq]
  simp [ByteArray.data_append]
theorem idx_n3 (b off n cap k : Nat) (h : k < n) (W : World) : (Instr.indexAt 25 (.slice (some ⟨b, off, none⟩) n cap) (.int .i64 (k : Int))).run Tryz.prog W = .ok (.pointer (some ⟨b, off + k * 3, none⟩)) W := by
  have h1 : (k : Int) < (n : Int) := by omega
  have h2 : 0 ≤ (k : Int) := by omega
  go_simp
theorem ld_nt3 {W : World} {b o : Nat} {x y z : Int} (h0 : W.cell? ⟨b, o, none⟩ = some (.int .i64 x)) (h1 : W.cell? ⟨b, o + 1, none⟩ = some (.int .i64 y)) (h2 : W.cell? ⟨b, o + 2, none⟩ = some (.int .i64 z)) : (Instr.loadAt 99 (.pointer (some ⟨b, o, none⟩))).run Tryz.prog W = .ok (nt x y z) W := by
  unfold nt
  go_simp
/-- A roster of the document's and a note in their boxes. -/
structure JD8 (w : World) (sl : Value) (k f r : Int) (N : Nat) (v : Value) (V : World) : Prop where
  be : Below w.heap.size w V
  bx : V.heap[w.heap.size]? = some (.cells #[sl] 60 (0, 0))
  bn : Nb8 V (w.heap.size + 1) k f r N v
theorem JD8.carry {w : World} {sl : Value} {k f r : Int} {N : Nat} {v : Value} {V U : World} (h : JD8 w sl k f r N v V) (hb : Below V.heap.size V U) : JD8 w sl k f r N v U := ⟨bel3 h.be hb, (hb.block _ (lt_at h.bx)).trans h.bx, h.bn.carry hb⟩
set_option maxHeartbeats 16000000 in
set_option maxRecDepth 100000 in
theorem rTell_any {M : Nat} {vr : Value} {L : List Int} {w : World} (hR : RosR M w vr L) (hM : M ≤ w.heap.size) (kd : Nat) (hk : 1 ≤ kd ∧ kd ≤ 3) (fr rd : Int) (N : Nat) (hN : N < S128) (h3 : kd = 3 → rd = 0) (h2 : kd ≠ 2 → N = 0) (ad : Option Addr) (cap : Nat) (ns : List N3t) (h : RdN w ad ns) (hl : ns.length ≤ 1000) : Calls Tryz.prog 19 #[vr, rnv kd fr rd N (.slice ad ns.length cap)] w (TlO L kd fr rd N ns w) := by
  have hmx : Tryz.prog.follows .mixedOrders = true := by kernel_rfl
  obtain ⟨adS, capS, rfl⟩ := hR.form
  obtain ⟨E, hE⟩ : ∃ E, flt kd (L.length : Int) fr rd N ns = E := ⟨_, rfl⟩
  obtain ⟨W1, hW1⟩ : ∃ W1, w.alloc (.cells #[.slice adS L.length capS] 60) = W1 := ⟨_, rfl⟩
  have hb1 : Below w.heap.size w W1 := by rw [← hW1]; exact al1t _ _
  have z1 : W1.heap.size = w.heap.size + 1 := by rw [← hW1]; simp
  have r1 : W1.heap[w.heap.size]? = some (.cells #[.slice adS L.length capS] 60 (0, 0)) := by rw [← hW1]; exact new_at rfl
  obtain ⟨W2, hW2⟩ : ∃ W2, W1.alloc (.cells (nC8 (kd : Int) fr rd N (.slice ad ns.length cap)) 27) = W2 := ⟨_, rfl⟩
  have hb2 : Below W1.heap.size W1 W2 := by rw [← hW2]; exact al1t _ _
  have r2 : Nb8 W2 (w.heap.size + 1) (kd : Int) fr rd N (.slice ad ns.length cap) := by unfold Nb8; rw [← hW2]; exact new_at z1.symm
  have hJ : JD8 w (.slice adS L.length capS) (kd : Int) fr rd N (.slice ad ns.length cap) W2 := ⟨bel3 hb1 hb2, (hb2.block _ (lt_at r1)).trans r1, r2⟩
  have hby := rbytes_any kd hk (L.length : Int) fr rd N hN h3 h2 ad cap ns W2 (h.carry hJ.be) (by omega)
  unfold BO at hby
  rw [hE] at hby
  have HRS : Hid (∀ V, Below w.heap.size w V → RosR M V (.agg #[.slice adS L.length capS]) L ∧ M ≤ V.heap.size) := fun V hV => ⟨hR.below (hV.mono hM), Nat.le_trans hM hV.size⟩
  have HRD : Hid (RdN w ad ns) := h
  have c0 : W2.cell? ⟨w.heap.size, 0, none⟩ = some (.slice adS L.length capS) := (cell_at hJ.bx 0).trans rfl
  obtain ⟨p0, p1, p2, p3, p4, p5, p6, p7⟩ := hJ.bn.cells
  have q1 : W1.heap.size = w.heap.size + 1 := z1
  unfold rnv at hby ⊢
  unfold nC8 at hW2
  clear hR h r1 r2 hb1 hb2 z1
  by_cases hE0 : E = 0
  case neg =>
    have HF : Hid (∀ V : World, Below w.heap.size w V → TlO L kd fr rd N ns w (.returned (.tuple #[.string ⟨#[]⟩, .int .i64 E])) V) := fun V hV => ⟨by rw [tlT_no (by rw [hE]; exact hE0), hE], hV⟩
    have hE1 : (E == 0) = false := by simpa using hE0
    clear hE
    go_enter Tryz.func19, Tryz.ntmps19
    go_wp2_with (go_at_call 38; (with_reducible refine hby.mono ?_); rintro e u1 ⟨b, rfl, _, hu1⟩)
    go_ret2
    exact HF.out _ (bel3 hJ.be hu1)
  subst hE0
  obtain ⟨g1, g2, g3, g4, g5⟩ := flt_0 hE
  obtain ⟨f, rfl⟩ := Int.eq_ofNat_of_zero_le g2.1
  have hV := nsV_of g5 hl
  have hfL : f < L.length := by omega
  have hgd : L.getD f 0 = L[f] := by rw [List.getD_eq_getElem?_getD, List.getElem?_eq_getElem hfL]; rfl
  obtain ⟨C, hC⟩ : ∃ C, txt [L.getD f 0] = C := ⟨_, rfl⟩
  have hCs : C.size ≤ 4 := by rw [← hC, txt_sz]; exact wr_c _
  have HSG : Hid (∀ V, Below w.heap.size w V → Calls Tryz.prog 39 #[.agg #[.slice adS L.length capS], .int .i64 (f : Int)] V fun e w' => e = .returned (.string C) ∧ Below V.heap.size V w') := fun V hV => by
    have h := rSign_any V (HRS.out V hV).1 (HRS.out V hV).2 f hfL
    rw [sg_txt, ← hgd, hC] at h
    exact h
  have HTX : Hid (∀ k x, ns[k]? = some x → ∀ V, Below w.heap.size w V → Calls Tryz.prog 42 #[.agg #[.slice adS L.length capS], nt x.1 x.2.1 x.2.2] V fun e w' => e = .returned (.string (ntT L x)) ∧ Below V.heap.size V w') := fun k x hx U hU => by
    obtain ⟨o, t, e1, e2, h1, h2, _⟩ := vN_facts (hV.v x (List.mem_of_getElem? hx))
    have h := rNtext_any U (HRS.out U hU).1 (HRS.out U hU).2 o h1 x.2.1 x.2.2 (by omega)
    unfold ntT
    rw [e1, Int.toNat_natCast]
    exact h
  have HSZ : Hid (∀ S k, (bdT S L ns k).size ≤ S.size + 100000) := fun S k => bd_size hV.v hl k
  have HNS : Hid (∀ k x, ns[k]? = some x → (ntT L x).size ≤ 100000) := fun k x hx => by
    have := nw_short (L := L) (ns := [x]) (fun y hy => by rw [List.mem_singleton.1 hy]; exact hV.v x (List.mem_of_getElem? hx)) (by simp)
    have e : (jnB ([x].map (ntT L))).size = (ntT L x).size := by
      have : (jnB ([x].map (ntT L))).data.toList = (ntT L x).data.toList := join_last _
      show (jnB _).data.size = (ntT L x).data.size
      rw [← Array.length_toList, this, Array.length_toList]
    omega
  obtain ⟨n, hn⟩ : ∃ n, ns.length = n := ⟨_, rfl⟩
  have HN : Hid (ns.length = n) := hn
  have sB : (⟨#[32]⟩ : ByteArray).size = 1 := rfl
  have sE : (⟨#[32, 91]⟩ : ByteArray).size = 2 := rfl
  have sF : (⟨#[93]⟩ : ByteArray).size = 1 := rfl
  rcases (show kd = 1 ∨ kd = 2 ∨ kd = 3 by omega) with rfl | rfl | rfl
  · skip
    obtain rfl : N = 0 := h2 (by decide)
    have g3' : 1 ≤ rd ∧ rd ≤ 1099511627775 := by rcases g3 with h | h; exact absurd h (by decide); exact h
    obtain ⟨r, rfl⟩ := Int.eq_ofNat_of_zero_le (show 0 ≤ rd by omega)
    have hDg := digits_any r (by omega)
    have hDs : (⟨(decDigits r).toArray⟩ : ByteArray).size ≤ 20 := by rw [show (⟨(decDigits r).toArray⟩ : ByteArray).size = (decDigits r).length by simp [ByteArray.size], decDigits_length]; exact nDigits_le20 r (by omega)
    have hfin := fin_q L f r 0 ns
    have hT : tlT L 1 (f : Int) (r : Int) 0 ns = txt (pcR (noteP L 1 (f : Int) r 0 ns)) := by unfold tlT; rw [if_pos hE]; rfl
    obtain ⟨D, hD⟩ : ∃ D, (⟨(decDigits r).toArray⟩ : ByteArray) = D := ⟨_, rfl⟩
    rw [hD] at hfin hDg hDs
    rw [← hT, hC, ← bd_all] at hfin
    rw [hn] at hfin hW2 hJ hby p7 ⊢
    have HF : Hid (∀ V : World, Below w.heap.size w V → TlO L 1 (f : Int) (r : Int) 0 ns w (.returned (.tuple #[.string (bdT ((((((⟨#[113, 117, 101, 114, 121]⟩ : ByteArray) ++ ⟨#[32]⟩) ++ C) ++ ⟨#[32]⟩) ++ D) ++ ⟨#[32, 91]⟩) L ns n ++ ⟨#[93]⟩), .int .i64 0])) V) := fun V hV => ⟨by rw [hfin, hE], hV⟩
    have sW : (⟨#[113, 117, 101, 114, 121]⟩ : ByteArray).size = 5 := rfl
    have a1 : (⟨#[113, 117, 101, 114, 121]⟩ : ByteArray).size + (⟨#[32]⟩ : ByteArray).size ≤ 9223372036854775807 := by (try simp only [ByteArray.size_append]); omega
    have a2 : ((⟨#[113, 117, 101, 114, 121]⟩ : ByteArray) ++ ⟨#[32]⟩).size + (C : ByteArray).size ≤ 9223372036854775807 := by (try simp only [ByteArray.size_append]); omega
    have a3 : (((⟨#[113, 117, 101, 114, 121]⟩ : ByteArray) ++ ⟨#[32]⟩) ++ C).size + (⟨#[32]⟩ : ByteArray).size ≤ 9223372036854775807 := by (try simp only [ByteArray.size_append]); omega
    have a4 : ((((⟨#[113, 117, 101, 114, 121]⟩ : ByteArray) ++ ⟨#[32]⟩) ++ C) ++ ⟨#[32]⟩).size + (D : ByteArray).size ≤ 9223372036854775807 := by (try simp only [ByteArray.size_append]); omega
    have a7 : (((((⟨#[113, 117, 101, 114, 121]⟩ : ByteArray) ++ ⟨#[32]⟩) ++ C) ++ ⟨#[32]⟩) ++ D).size + (⟨#[32, 91]⟩ : ByteArray).size ≤ 9223372036854775807 := by (try simp only [ByteArray.size_append]); omega
    have hSs : ((((((⟨#[113, 117, 101, 114, 121]⟩ : ByteArray) ++ ⟨#[32]⟩) ++ C) ++ ⟨#[32]⟩) ++ D) ++ ⟨#[32, 91]⟩).size ≤ 1000 := by simp only [ByteArray.size_append]; omega
    obtain ⟨S, hS⟩ : ∃ S, ((((((⟨#[113, 117, 101, 114, 121]⟩ : ByteArray) ++ ⟨#[32]⟩) ++ C) ++ ⟨#[32]⟩) ++ D) ++ ⟨#[32, 91]⟩) = S := ⟨_, rfl⟩
    rw [hS] at HF hSs
    clear hfin hT hE hC hgd
    have ek : ((1 : Nat) : Int) = 1 := rfl
    rw [ek] at hW2 hJ hby p0
    clear ek
    go_enter Tryz.func19, Tryz.ntmps19
    go_wp2_with (first | (go_at_call 40; (with_reducible refine (hDg _).mono ?_); rintro e u3 ⟨rfl, hu3⟩; (have hJ3 := hJ2.carry hu3); (have c0''' : u3.cell? ⟨w.heap.size, 0, none⟩ = some (.slice adS L.length capS) := (cell_at hJ3.bx 0).trans rfl); obtain ⟨p0''', p1''', p2''', p3''', p4''', p5''', p6''', p7'''⟩ := hJ3.bn.cells) | (go_at_call 39; (with_reducible refine (HSG.out _ hJ1.be).mono ?_); rintro e u2 ⟨rfl, hu2⟩; (have hJ2 := hJ1.carry hu2); (have c0'' : u2.cell? ⟨w.heap.size, 0, none⟩ = some (.slice adS L.length capS) := (cell_at hJ2.bx 0).trans rfl); obtain ⟨p0'', p1'', p2'', p3'', p4'', p5'', p6'', p7''⟩ := hJ2.bn.cells) | (go_at_call 38; (with_reducible refine hby.mono ?_); rintro e u1 ⟨b, rfl, _, hu1⟩; (have hJ1 := hJ.carry hu1); (have c0' : u1.cell? ⟨w.heap.size, 0, none⟩ = some (.slice adS L.length capS) := (cell_at hJ1.bx 0).trans rfl); obtain ⟨p0', p1', p2', p3', p4', p5', p6', p7'⟩ := hJ1.bn.cells))
    go_loopw [9, 12] (fun sv iv wz => ∃ (k : Nat), iv = .int .i64 (k : Int) ∧ k ≤ n ∧ sv = .string (bdT S L ns k) ∧ JD8 w (.slice adS L.length capS) 1 (f : Int) (r : Int) 0 (.slice ad n cap) wz) (fun _ i _ => n - vnatR i)
    case atStart => exact ⟨0, rfl, Nat.zero_le _, by rw [bd_0, ← hS], hJ3⟩
    case round =>
      obtain ⟨k, rfl, hkn, rfl, hJw⟩ := hrel
      obtain ⟨p0k, p1k, p2k, p3k, p4k, p5k, p6k, p7k⟩ := hJw.bn.cells
      have hbs := HSZ.out S k
      by_cases hkl : k < n
      · have hki : (k : Int) < (n : Int) := by omega
        obtain ⟨⟨o, t, q⟩, hx⟩ : ∃ x, ns[k]? = some x := ⟨_, List.getElem?_eq_getElem (by rw [HN.out]; exact hkl)⟩
        have hxs := HNS.out k _ hx
        obtain ⟨b, off, rfl, hbl, hat⟩ := HRD.out (fun e => by rw [e] at hx; simp at hx)
        obtain ⟨y0, y1, y2⟩ := hat k _ hx
        have HTXk : Hid (∀ V, Below w.heap.size w V → Calls Tryz.prog 42 #[.agg #[.slice adS L.length capS], nt o t q] V fun e w' => e = .returned (.string (ntT L (o, t, q))) ∧ Below V.heap.size V w') := HTX.out k (o, t, q) hx
        dsimp only at y0 y1 y2
        by_cases hk0 : k = 0
        · have hk0i : ¬ (0 : Int) < (k : Int) := by omega
          have HK0 : Hid (k = 0) := hk0
          clear hk0
          have had : (bdT S L ns k).size + (ntT L (o, t, q)).size ≤ 9223372036854775807 := by omega
          go_wp2
          rename_i hK
          refine wp_region_any hmx ?_
          refine wpAny_pure (fun i__ => ([(.string (bdT S L ns k)), (.agg #[.slice adS L.length capS]), (.pointer (some ⟨w.heap.size + 1, 7, none⟩)), (.slice (some ⟨b, off, none⟩) n cap), (.int .i64 (k : Int)), (.pointer (some ⟨b, off + k * 3, none⟩)), (nt o t q), (.string (ntT L (o, t, q))), (.string ((bdT S L ns k) ++ ntT L (o, t, q))), (.string ((bdT S L ns k) ++ ntT L (o, t, q)))] : List Value).getD i__ undef) (fun V => JD8 w (.slice adS L.length capS) 1 (f : Int) (r : Int) 0 (.slice (some ⟨b, off, none⟩) n cap) V) (by kernel_rfl) (hJw.carry (Below.refl _ _).drew) ?_ ?_
          · refine (stepsFrom_cons ?_ (stepsFrom_cons ?_ (stepsFrom_cons ?_ (stepsFrom_cons ?_ (stepsFrom_cons ?_ (stepsFrom_cons ?_ (stepsFrom_cons ?_ (stepsFrom_cons ?_ (stepsFrom_cons ?_ (stepsFrom_cons ?_ trivial))))))))))
            · exact step_move rfl trivial _ rfl (by kernel_rfl)
            · exact step_load rfl trivial _ _ _ rfl rfl (fun v hw => load_rosR hw.bx)
            · exact step_fieldAddr rfl trivial _ _ _ _ rfl rfl (fun v hw => field_n8 v _)
            · exact step_load rfl trivial _ _ _ rfl rfl (fun v hw => ld_n hw.bn.cells.2.2.2.2.2.2.2)
            · exact step_move rfl trivial _ rfl (by kernel_rfl)
            · exact step_indexAddr rfl trivial _ _ _ _ _ rfl rfl rfl (fun v hw => idx_n3 _ _ _ _ _ hkl v)
            · exact step_load rfl trivial _ _ _ rfl rfl (fun v hw => ld_nt3 ((hw.be.cell (p := ⟨b, off + k * 3, none⟩) hbl).trans y0) ((hw.be.cell (p := ⟨b, off + k * 3 + 1, none⟩) hbl).trans y1) ((hw.be.cell (p := ⟨b, off + k * 3 + 2, none⟩) hbl).trans y2))
            · exact step_call rfl trivial 42 _ _ [(.agg #[.slice adS L.length capS]), (nt o t q)] rfl (by kernel_rfl) (enters_of Tryz.func42 (by kernel_rfl) rfl) (fun V hw => (HTXk.out V hw.be).mono (by rintro e w' ⟨rfl, h⟩; exact ⟨rfl, hw.carry h⟩))
            · exact step_binOp rfl trivial _ _ _ _ _ _ _ rfl rfl rfl (fun v hw => bin_adds _ _ had)
            · exact step_assign rfl trivial _ rfl (by kernel_rfl) (fun _ h => h)
          intro W hW
          first | refine hK _ _ ?_ | refine (‹∀ (a : Act) (w : World), Code.wp Tryz.prog _ _ a w → _›) _ _ ?_ | skip
          simp only [finL, List.getD_cons_zero, List.getD_cons_succ, Nat.zero_add, Nat.reduceAdd, List.setIfInBounds_toArray, List.set_cons_zero, List.set_cons_succ]
          have hJe := hW
          have hst : (bdT S L ns k) ++ ntT L (o, t, q) = bdT S L ns (k + 1) := by have hk0 := HK0.out; subst hk0; rw [bd_0]; exact bd_1 hx
          rw [hst]
          clear hW hK hst
          go_wp2
          go_roundw
          case rel => exact ⟨k + 1, by simp, by omega, rfl, hJe⟩
          case measure => simp [vnatR]; omega
        · have hk0i : (0 : Int) < (k : Int) := by omega
          have had0 : (bdT S L ns k).size + (⟨#[32]⟩ : ByteArray).size ≤ 9223372036854775807 := by omega
          have had : (bdT S L ns k ++ ⟨#[32]⟩).size + (ntT L (o, t, q)).size ≤ 9223372036854775807 := by rw [ByteArray.size_append]; omega
          go_wp2
          rename_i hK
          refine wp_region_any hmx ?_
          refine wpAny_pure (fun i__ => ([(.string (bdT S L ns k ++ ⟨#[32]⟩)), (.agg #[.slice adS L.length capS]), (.pointer (some ⟨w.heap.size + 1, 7, none⟩)), (.slice (some ⟨b, off, none⟩) n cap), (.int .i64 (k : Int)), (.pointer (some ⟨b, off + k * 3, none⟩)), (nt o t q), (.string (ntT L (o, t, q))), (.string ((bdT S L ns k ++ ⟨#[32]⟩) ++ ntT L (o, t, q))), (.string ((bdT S L ns k ++ ⟨#[32]⟩) ++ ntT L (o, t, q)))] : List Value).getD i__ undef) (fun V => JD8 w (.slice adS L.length capS) 1 (f : Int) (r : Int) 0 (.slice (some ⟨b, off, none⟩) n cap) V) (by kernel_rfl) (hJw.carry (Below.refl _ _).drew) ?_ ?_
          · refine (stepsFrom_cons ?_ (stepsFrom_cons ?_ (stepsFrom_cons ?_ (stepsFrom_cons ?_ (stepsFrom_cons ?_ (stepsFrom_cons ?_ (stepsFrom_cons ?_ (stepsFrom_cons ?_ (stepsFrom_cons ?_ (stepsFrom_cons ?_ trivial))))))))))
            · exact step_move rfl trivial _ rfl (by kernel_rfl)
            · exact step_load rfl trivial _ _ _ rfl rfl (fun v hw => load_rosR hw.bx)
            · exact step_fieldAddr rfl trivial _ _ _ _ rfl rfl (fun v hw => field_n8 v _)
            · exact step_load rfl trivial _ _ _ rfl rfl (fun v hw => ld_n hw.bn.cells.2.2.2.2.2.2.2)
            · exact step_move rfl trivial _ rfl (by kernel_rfl)
            · exact step_indexAddr rfl trivial _ _ _ _ _ rfl rfl rfl (fun v hw => idx_n3 _ _ _ _ _ hkl v)
            · exact step_load rfl trivial _ _ _ rfl rfl (fun v hw => ld_nt3 ((hw.be.cell (p := ⟨b, off + k * 3, none⟩) hbl).trans y0) ((hw.be.cell (p := ⟨b, off + k * 3 + 1, none⟩) hbl).trans y1) ((hw.be.cell (p := ⟨b, off + k * 3 + 2, none⟩) hbl).trans y2))
            · exact step_call rfl trivial 42 _ _ [(.agg #[.slice adS L.length capS]), (nt o t q)] rfl (by kernel_rfl) (enters_of Tryz.func42 (by kernel_rfl) rfl) (fun V hw => (HTXk.out V hw.be).mono (by rintro e w' ⟨rfl, h⟩; exact ⟨rfl, hw.carry h⟩))
            · exact step_binOp rfl trivial _ _ _ _ _ _ _ rfl rfl rfl (fun v hw => bin_adds _ _ had)
            · exact step_assign rfl trivial _ rfl (by kernel_rfl) (fun _ h => h)
          intro W hW
          first | refine hK _ _ ?_ | refine (‹∀ (a : Act) (w : World), Code.wp Tryz.prog _ _ a w → _›) _ _ ?_ | skip
          simp only [finL, List.getD_cons_zero, List.getD_cons_succ, Nat.zero_add, Nat.reduceAdd, List.setIfInBounds_toArray, List.set_cons_zero, List.set_cons_succ]
          have hJe := hW
          have hst : (bdT S L ns k ++ ⟨#[32]⟩) ++ ntT L (o, t, q) = bdT S L ns (k + 1) := bd_s hk0 hx
          rw [hst]
          clear hW hK hst
          go_wp2
          go_roundw
          case rel => exact ⟨k + 1, by simp, by omega, rfl, hJe⟩
          case measure => simp [vnatR]; omega
      · have hkk : k = n := by omega
        subst hkk
        have hki : ¬ ((k : Int) < (k : Int)) := by omega
        have had : (bdT S L ns k).size + (⟨#[93]⟩ : ByteArray).size ≤ 9223372036854775807 := by omega
        go_wp2
        go_ret2
        exact HF.out _ hJw.be
  · skip
    have g3' : 1 ≤ rd ∧ rd ≤ 1099511627775 := by rcases g3 with h | h; exact absurd h (by decide); exact h
    obtain ⟨r, rfl⟩ := Int.eq_ofNat_of_zero_le (show 0 ≤ rd by omega)
    have hDg := digits_any r (by omega)
    have hDs : (⟨(decDigits r).toArray⟩ : ByteArray).size ≤ 20 := by rw [show (⟨(decDigits r).toArray⟩ : ByteArray).size = (decDigits r).length by simp [ByteArray.size], decDigits_length]; exact nDigits_le20 r (by omega)
    have hfin := fin_p L f r N g4 ns
    have hHs : (prR L N).1.size ≤ 512 := by rw [set_txt g4, txt_sz]; exact wr_set L N
    have hPz : (prR L N).2 = 0 := by unfold prR; rw [if_pos g4]; split <;> rfl
    obtain ⟨H, hH⟩ : ∃ H, (prR L N).1 = H := ⟨_, rfl⟩
    have HPR : Hid (∀ V, Below w.heap.size w V → Calls Tryz.prog 41 #[.agg #[.slice adS L.length capS], .agg #[.int .u32 (wd N 0 : Nat), .int .u32 (wd N 1 : Nat), .int .u32 (wd N 2 : Nat), .int .u32 (wd N 3 : Nat)]] V fun e w' => e = .returned (.tuple #[.string H, .int .i64 0]) ∧ Below V.heap.size V w') := fun V hV => by
      have h := rPrint_any V (HRS.out V hV).1 (HRS.out V hV).2 N hN
      rw [hH, hPz] at h
      exact h
    rw [hH] at hfin hHs
    have hT : tlT L 2 (f : Int) (r : Int) N ns = txt (pcR (noteP L 2 (f : Int) r N ns)) := by unfold tlT; rw [if_pos hE]; rfl
    obtain ⟨D, hD⟩ : ∃ D, (⟨(decDigits r).toArray⟩ : ByteArray) = D := ⟨_, rfl⟩
    rw [hD] at hfin hDg hDs
    rw [← hT, hC, ← bd_all] at hfin
    rw [hn] at hfin hW2 hJ hby p7 ⊢
    have HF : Hid (∀ V : World, Below w.heap.size w V → TlO L 2 (f : Int) (r : Int) N ns w (.returned (.tuple #[.string (bdT ((((((((⟨#[114, 101, 112, 108, 121]⟩ : ByteArray) ++ ⟨#[32]⟩) ++ C) ++ ⟨#[32]⟩) ++ D) ++ ⟨#[32]⟩) ++ H) ++ ⟨#[32, 91]⟩) L ns n ++ ⟨#[93]⟩), .int .i64 0])) V) := fun V hV => ⟨by rw [hfin, hE], hV⟩
    have sW : (⟨#[114, 101, 112, 108, 121]⟩ : ByteArray).size = 5 := rfl
    have a1 : (⟨#[114, 101, 112, 108, 121]⟩ : ByteArray).size + (⟨#[32]⟩ : ByteArray).size ≤ 9223372036854775807 := by (try simp only [ByteArray.size_append]); omega
    have a2 : ((⟨#[114, 101, 112, 108, 121]⟩ : ByteArray) ++ ⟨#[32]⟩).size + (C : ByteArray).size ≤ 9223372036854775807 := by (try simp only [ByteArray.size_append]); omega
    have a3 : (((⟨#[114, 101, 112, 108, 121]⟩ : ByteArray) ++ ⟨#[32]⟩) ++ C).size + (⟨#[32]⟩ : ByteArray).size ≤ 9223372036854775807 := by (try simp only [ByteArray.size_append]); omega
    have a4 : ((((⟨#[114, 101, 112, 108, 121]⟩ : ByteArray) ++ ⟨#[32]⟩) ++ C) ++ ⟨#[32]⟩).size + (D : ByteArray).size ≤ 9223372036854775807 := by (try simp only [ByteArray.size_append]); omega
    have a5 : (((((⟨#[114, 101, 112, 108, 121]⟩ : ByteArray) ++ ⟨#[32]⟩) ++ C) ++ ⟨#[32]⟩) ++ D).size + (⟨#[32]⟩ : ByteArray).size ≤ 9223372036854775807 := by (try simp only [ByteArray.size_append]); omega
    have a6 : ((((((⟨#[114, 101, 112, 108, 121]⟩ : ByteArray) ++ ⟨#[32]⟩) ++ C) ++ ⟨#[32]⟩) ++ D) ++ ⟨#[32]⟩).size + (H : ByteArray).size ≤ 9223372036854775807 := by (try simp only [ByteArray.size_append]); omega
    have a7 : (((((((⟨#[114, 101, 112, 108, 121]⟩ : ByteArray) ++ ⟨#[32]⟩) ++ C) ++ ⟨#[32]⟩) ++ D) ++ ⟨#[32]⟩) ++ H).size + (⟨#[32, 91]⟩ : ByteArray).size ≤ 9223372036854775807 := by (try simp only [ByteArray.size_append]); omega
    have hSs : ((((((((⟨#[114, 101, 112, 108, 121]⟩ : ByteArray) ++ ⟨#[32]⟩) ++ C) ++ ⟨#[32]⟩) ++ D) ++ ⟨#[32]⟩) ++ H) ++ ⟨#[32, 91]⟩).size ≤ 1000 := by simp only [ByteArray.size_append]; omega
    obtain ⟨S, hS⟩ : ∃ S, ((((((((⟨#[114, 101, 112, 108, 121]⟩ : ByteArray) ++ ⟨#[32]⟩) ++ C) ++ ⟨#[32]⟩) ++ D) ++ ⟨#[32]⟩) ++ H) ++ ⟨#[32, 91]⟩) = S := ⟨_, rfl⟩
    rw [hS] at HF hSs
    clear hfin hT hE hC hgd hH hPz
    have ek : ((2 : Nat) : Int) = 2 := rfl
    rw [ek] at hW2 hJ hby p0
    clear ek
    go_enter Tryz.func19, Tryz.ntmps19
    go_wp2_with (first | (go_at_call 41; (with_reducible refine (HPR.out _ hJ3.be).mono ?_); rintro e u4 ⟨rfl, hu4⟩; (have hJ4 := hJ3.carry hu4); (have c0'''' : u4.cell? ⟨w.heap.size, 0, none⟩ = some (.slice adS L.length capS) := (cell_at hJ4.bx 0).trans rfl); obtain ⟨p0'''', p1'''', p2'''', p3'''', p4'''', p5'''', p6'''', p7''''⟩ := hJ4.bn.cells) | (go_at_call 40; (with_reducible refine (hDg _).mono ?_); rintro e u3 ⟨rfl, hu3⟩; (have hJ3 := hJ2.carry hu3); (have c0''' : u3.cell? ⟨w.heap.size, 0, none⟩ = some (.slice adS L.length capS) := (cell_at hJ3.bx 0).trans rfl); obtain ⟨p0''', p1''', p2''', p3''', p4''', p5''', p6''', p7'''⟩ := hJ3.bn.cells) | (go_at_call 39; (with_reducible refine (HSG.out _ hJ1.be).mono ?_); rintro e u2 ⟨rfl, hu2⟩; (have hJ2 := hJ1.carry hu2); (have c0'' : u2.cell? ⟨w.heap.size, 0, none⟩ = some (.slice adS L.length capS) := (cell_at hJ2.bx 0).trans rfl); obtain ⟨p0'', p1'', p2'', p3'', p4'', p5'', p6'', p7''⟩ := hJ2.bn.cells) | (go_at_call 38; (with_reducible refine hby.mono ?_); rintro e u1 ⟨b, rfl, _, hu1⟩; (have hJ1 := hJ.carry hu1); (have c0' : u1.cell? ⟨w.heap.size, 0, none⟩ = some (.slice adS L.length capS) := (cell_at hJ1.bx 0).trans rfl); obtain ⟨p0', p1', p2', p3', p4', p5', p6', p7'⟩ := hJ1.bn.cells))
    go_loopw [9, 12] (fun sv iv wz => ∃ (k : Nat), iv = .int .i64 (k : Int) ∧ k ≤ n ∧ sv = .string (bdT S L ns k) ∧ JD8 w (.slice adS L.length capS) 2 (f : Int) (r : Int) N (.slice ad n cap) wz) (fun _ i _ => n - vnatR i)
    case atStart => exact ⟨0, rfl, Nat.zero_le _, by rw [bd_0, ← hS], hJ4⟩
    case round =>
      obtain ⟨k, rfl, hkn, rfl, hJw⟩ := hrel
      obtain ⟨p0k, p1k, p2k, p3k, p4k, p5k, p6k, p7k⟩ := hJw.bn.cells
      have hbs := HSZ.out S k
      by_cases hkl : k < n
      · have hki : (k : Int) < (n : Int) := by omega
        obtain ⟨⟨o, t, q⟩, hx⟩ : ∃ x, ns[k]? = some x := ⟨_, List.getElem?_eq_getElem (by rw [HN.out]; exact hkl)⟩
        have hxs := HNS.out k _ hx
        obtain ⟨b, off, rfl, hbl, hat⟩ := HRD.out (fun e => by rw [e] at hx; simp at hx)
        obtain ⟨y0, y1, y2⟩ := hat k _ hx
        have HTXk : Hid (∀ V, Below w.heap.size w V → Calls Tryz.prog 42 #[.agg #[.slice adS L.length capS], nt o t q] V fun e w' => e = .returned (.string (ntT L (o, t, q))) ∧ Below V.heap.size V w') := HTX.out k (o, t, q) hx
        dsimp only at y0 y1 y2
        by_cases hk0 : k = 0
        · have hk0i : ¬ (0 : Int) < (k : Int) := by omega
          have HK0 : Hid (k = 0) := hk0
          clear hk0
          have had : (bdT S L ns k).size + (ntT L (o, t, q)).size ≤ 9223372036854775807 := by omega
          go_wp2
          rename_i hK
          refine wp_region_any hmx ?_
          refine wpAny_pure (fun i__ => ([(.string (bdT S L ns k)), (.agg #[.slice adS L.length capS]), (.pointer (some ⟨w.heap.size + 1, 7, none⟩)), (.slice (some ⟨b, off, none⟩) n cap), (.int .i64 (k : Int)), (.pointer (some ⟨b, off + k * 3, none⟩)), (nt o t q), (.string (ntT L (o, t, q))), (.string ((bdT S L ns k) ++ ntT L (o, t, q))), (.string ((bdT S L ns k) ++ ntT L (o, t, q)))] : List Value).getD i__ undef) (fun V => JD8 w (.slice adS L.length capS) 2 (f : Int) (r : Int) N (.slice (some ⟨b, off, none⟩) n cap) V) (by kernel_rfl) (hJw.carry (Below.refl _ _).drew) ?_ ?_
          · refine (stepsFrom_cons ?_ (stepsFrom_cons ?_ (stepsFrom_cons ?_ (stepsFrom_cons ?_ (stepsFrom_cons ?_ (stepsFrom_cons ?_ (stepsFrom_cons ?_ (stepsFrom_cons ?_ (stepsFrom_cons ?_ (stepsFrom_cons ?_ trivial))))))))))
            · exact step_move rfl trivial _ rfl (by kernel_rfl)
            · exact step_load rfl trivial _ _ _ rfl rfl (fun v hw => load_rosR hw.bx)
            · exact step_fieldAddr rfl trivial _ _ _ _ rfl rfl (fun v hw => field_n8 v _)
            · exact step_load rfl trivial _ _ _ rfl rfl (fun v hw => ld_n hw.bn.cells.2.2.2.2.2.2.2)
            · exact step_move rfl trivial _ rfl (by kernel_rfl)
            · exact step_indexAddr rfl trivial _ _ _ _ _ rfl rfl rfl (fun v hw => idx_n3 _ _ _ _ _ hkl v)
            · exact step_load rfl trivial _ _ _ rfl rfl (fun v hw => ld_nt3 ((hw.be.cell (p := ⟨b, off + k * 3, none⟩) hbl).trans y0) ((hw.be.cell (p := ⟨b, off + k * 3 + 1, none⟩) hbl).trans y1) ((hw.be.cell (p := ⟨b, off + k * 3 + 2, none⟩) hbl).trans y2))
            · exact step_call rfl trivial 42 _ _ [(.agg #[.slice adS L.length capS]), (nt o t q)] rfl (by kernel_rfl) (enters_of Tryz.func42 (by kernel_rfl) rfl) (fun V hw => (HTXk.out V hw.be).mono (by rintro e w' ⟨rfl, h⟩; exact ⟨rfl, hw.carry h⟩))
            · exact step_binOp rfl trivial _ _ _ _ _ _ _ rfl rfl rfl (fun v hw => bin_adds _ _ had)
            · exact step_assign rfl trivial _ rfl (by kernel_rfl) (fun _ h => h)
          intro W hW
          first | refine hK _ _ ?_ | refine (‹∀ (a : Act) (w : World), Code.wp Tryz.prog _ _ a w → _›) _ _ ?_ | skip
          simp only [finL, List.getD_cons_zero, List.getD_cons_succ, Nat.zero_add, Nat.reduceAdd, List.setIfInBounds_toArray, List.set_cons_zero, List.set_cons_succ]
          have hJe := hW
          have hst : (bdT S L ns k) ++ ntT L (o, t, q) = bdT S L ns (k + 1) := by have hk0 := HK0.out; subst hk0; rw [bd_0]; exact bd_1 hx
          rw [hst]
          clear hW hK hst
          go_wp2
          go_roundw
          case rel => exact ⟨k + 1, by simp, by omega, rfl, hJe⟩
          case measure => simp [vnatR]; omega
        · have hk0i : (0 : Int) < (k : Int) := by omega
          have had0 : (bdT S L ns k).size + (⟨#[32]⟩ : ByteArray).size ≤ 9223372036854775807 := by omega
          have had : (bdT S L ns k ++ ⟨#[32]⟩).size + (ntT L (o, t, q)).size ≤ 9223372036854775807 := by rw [ByteArray.size_append]; omega
          go_wp2
          rename_i hK
          refine wp_region_any hmx ?_
          refine wpAny_pure (fun i__ => ([(.string (bdT S L ns k ++ ⟨#[32]⟩)), (.agg #[.slice adS L.length capS]), (.pointer (some ⟨w.heap.size + 1, 7, none⟩)), (.slice (some ⟨b, off, none⟩) n cap), (.int .i64 (k : Int)), (.pointer (some ⟨b, off + k * 3, none⟩)), (nt o t q), (.string (ntT L (o, t, q))), (.string ((bdT S L ns k ++ ⟨#[32]⟩) ++ ntT L (o, t, q))), (.string ((bdT S L ns k ++ ⟨#[32]⟩) ++ ntT L (o, t, q)))] : List Value).getD i__ undef) (fun V => JD8 w (.slice adS L.length capS) 2 (f : Int) (r : Int) N (.slice (some ⟨b, off, none⟩) n cap) V) (by kernel_rfl) (hJw.carry (Below.refl _ _).drew) ?_ ?_
          · refine (stepsFrom_cons ?_ (stepsFrom_cons ?_ (stepsFrom_cons ?_ (stepsFrom_cons ?_ (stepsFrom_cons ?_ (stepsFrom_cons ?_ (stepsFrom_cons ?_ (stepsFrom_cons ?_ (stepsFrom_cons ?_ (stepsFrom_cons ?_ trivial))))))))))
            · exact step_move rfl trivial _ rfl (by kernel_rfl)
            · exact step_load rfl trivial _ _ _ rfl rfl (fun v hw => load_rosR hw.bx)
            · exact step_fieldAddr rfl trivial _ _ _ _ rfl rfl (fun v hw => field_n8 v _)
            · exact step_load rfl trivial _ _ _ rfl rfl (fun v hw => ld_n hw.bn.cells.2.2.2.2.2.2.2)
            · exact step_move rfl trivial _ rfl (by kernel_rfl)
            · exact step_indexAddr rfl trivial _ _ _ _ _ rfl rfl rfl (fun v hw => idx_n3 _ _ _ _ _ hkl v)
            · exact step_load rfl trivial _ _ _ rfl rfl (fun v hw => ld_nt3 ((hw.be.cell (p := ⟨b, off + k * 3, none⟩) hbl).trans y0) ((hw.be.cell (p := ⟨b, off + k * 3 + 1, none⟩) hbl).trans y1) ((hw.be.cell (p := ⟨b, off + k * 3 + 2, none⟩) hbl).trans y2))
            · exact step_call rfl trivial 42 _ _ [(.agg #[.slice adS L.length capS]), (nt o t q)] rfl (by kernel_rfl) (enters_of Tryz.func42 (by kernel_rfl) rfl) (fun V hw => (HTXk.out V hw.be).mono (by rintro e w' ⟨rfl, h⟩; exact ⟨rfl, hw.carry h⟩))
            · exact step_binOp rfl trivial _ _ _ _ _ _ _ rfl rfl rfl (fun v hw => bin_adds _ _ had)
            · exact step_assign rfl trivial _ rfl (by kernel_rfl) (fun _ h => h)
          intro W hW
          first | refine hK _ _ ?_ | refine (‹∀ (a : Act) (w : World), Code.wp Tryz.prog _ _ a w → _›) _ _ ?_ | skip
          simp only [finL, List.getD_cons_zero, List.getD_cons_succ, Nat.zero_add, Nat.reduceAdd, List.setIfInBounds_toArray, List.set_cons_zero, List.set_cons_succ]
          have hJe := hW
          have hst : (bdT S L ns k ++ ⟨#[32]⟩) ++ ntT L (o, t, q) = bdT S L ns (k + 1) := bd_s hk0 hx
          rw [hst]
          clear hW hK hst
          go_wp2
          go_roundw
          case rel => exact ⟨k + 1, by simp, by omega, rfl, hJe⟩
          case measure => simp [vnatR]; omega
      · have hkk : k = n := by omega
        subst hkk
        have hki : ¬ ((k : Int) < (k : Int)) := by omega
        have had : (bdT S L ns k).size + (⟨#[93]⟩ : ByteArray).size ≤ 9223372036854775807 := by omega
        go_wp2
        go_ret2
        exact HF.out _ hJw.be
  · skip
    obtain rfl : N = 0 := h2 (by decide)
    obtain rfl : rd = 0 := h3 rfl
    have hfin := fin_u L f 0 ns
    have hT : tlT L 3 (f : Int) 0 0 ns = txt (pcR (noteP L 3 (f : Int) 0 0 ns)) := by unfold tlT; rw [if_pos hE]; rfl
    rw [← hT, hC, ← bd_all] at hfin
    rw [hn] at hfin hW2 hJ hby p7 ⊢
    have HF : Hid (∀ V : World, Below w.heap.size w V → TlO L 3 (f : Int) 0 0 ns w (.returned (.tuple #[.string (bdT ((((⟨#[114, 117, 109, 111, 114]⟩ : ByteArray) ++ ⟨#[32]⟩) ++ C) ++ ⟨#[32, 91]⟩) L ns n ++ ⟨#[93]⟩), .int .i64 0])) V) := fun V hV => ⟨by rw [hfin, hE], hV⟩
    have sW : (⟨#[114, 117, 109, 111, 114]⟩ : ByteArray).size = 5 := rfl
    have a1 : (⟨#[114, 117, 109, 111, 114]⟩ : ByteArray).size + (⟨#[32]⟩ : ByteArray).size ≤ 9223372036854775807 := by (try simp only [ByteArray.size_append]); omega
    have a2 : ((⟨#[114, 117, 109, 111, 114]⟩ : ByteArray) ++ ⟨#[32]⟩).size + (C : ByteArray).size ≤ 9223372036854775807 := by (try simp only [ByteArray.size_append]); omega
    have a7 : (((⟨#[114, 117, 109, 111, 114]⟩ : ByteArray) ++ ⟨#[32]⟩) ++ C).size + (⟨#[32, 91]⟩ : ByteArray).size ≤ 9223372036854775807 := by (try simp only [ByteArray.size_append]); omega
    have hSs : ((((⟨#[114, 117, 109, 111, 114]⟩ : ByteArray) ++ ⟨#[32]⟩) ++ C) ++ ⟨#[32, 91]⟩).size ≤ 1000 := by simp only [ByteArray.size_append]; omega
    obtain ⟨S, hS⟩ : ∃ S, ((((⟨#[114, 117, 109, 111, 114]⟩ : ByteArray) ++ ⟨#[32]⟩) ++ C) ++ ⟨#[32, 91]⟩) = S := ⟨_, rfl⟩
    rw [hS] at HF hSs
    clear hfin hT hE hC hgd
    have ek : ((3 : Nat) : Int) = 3 := rfl
    rw [ek] at hW2 hJ hby p0
    clear ek
    go_enter Tryz.func19, Tryz.ntmps19
    go_wp2_with (first | (go_at_call 39; (with_reducible refine (HSG.out _ hJ1.be).mono ?_); rintro e u2 ⟨rfl, hu2⟩; (have hJ2 := hJ1.carry hu2); (have c0'' : u2.cell? ⟨w.heap.size, 0, none⟩ = some (.slice adS L.length capS) := (cell_at hJ2.bx 0).trans rfl); obtain ⟨p0'', p1'', p2'', p3'', p4'', p5'', p6'', p7''⟩ := hJ2.bn.cells) | (go_at_call 38; (with_reducible refine hby.mono ?_); rintro e u1 ⟨b, rfl, _, hu1⟩; (have hJ1 := hJ.carry hu1); (have c0' : u1.cell? ⟨w.heap.size, 0, none⟩ = some (.slice adS L.length capS) := (cell_at hJ1.bx 0).trans rfl); obtain ⟨p0', p1', p2', p3', p4', p5', p6', p7'⟩ := hJ1.bn.cells))
    go_loopw [9, 12] (fun sv iv wz => ∃ (k : Nat), iv = .int .i64 (k : Int) ∧ k ≤ n ∧ sv = .string (bdT S L ns k) ∧ JD8 w (.slice adS L.length capS) 3 (f : Int) 0 0 (.slice ad n cap) wz) (fun _ i _ => n - vnatR i)
    case atStart => exact ⟨0, rfl, Nat.zero_le _, by rw [bd_0, ← hS], hJ2⟩
    case round =>
      obtain ⟨k, rfl, hkn, rfl, hJw⟩ := hrel
      obtain ⟨p0k, p1k, p2k, p3k, p4k, p5k, p6k, p7k⟩ := hJw.bn.cells
      have hbs := HSZ.out S k
      by_cases hkl : k < n
      · have hki : (k : Int) < (n : Int) := by omega
        obtain ⟨⟨o, t, q⟩, hx⟩ : ∃ x, ns[k]? = some x := ⟨_, List.getElem?_eq_getElem (by rw [HN.out]; exact hkl)⟩
        have hxs := HNS.out k _ hx
        obtain ⟨b, off, rfl, hbl, hat⟩ := HRD.out (fun e => by rw [e] at hx; simp at hx)
        obtain ⟨y0, y1, y2⟩ := hat k _ hx
        have HTXk : Hid (∀ V, Below w.heap.size w V → Calls Tryz.prog 42 #[.agg #[.slice adS L.length capS], nt o t q] V fun e w' => e = .returned (.string (ntT L (o, t, q))) ∧ Below V.heap.size V w') := HTX.out k (o, t, q) hx
        dsimp only at y0 y1 y2
        by_cases hk0 : k = 0
        · have hk0i : ¬ (0 : Int) < (k : Int) := by omega
          have HK0 : Hid (k = 0) := hk0
          clear hk0
          have had : (bdT S L ns k).size + (ntT L (o, t, q)).size ≤ 9223372036854775807 := by omega
          go_wp2
          rename_i hK
          refine wp_region_any hmx ?_
          refine wpAny_pure (fun i__ => ([(.string (bdT S L ns k)), (.agg #[.slice adS L.length capS]), (.pointer (some ⟨w.heap.size + 1, 7, none⟩)), (.slice (some ⟨b, off, none⟩) n cap), (.int .i64 (k : Int)), (.pointer (some ⟨b, off + k * 3, none⟩)), (nt o t q), (.string (ntT L (o, t, q))), (.string ((bdT S L ns k) ++ ntT L (o, t, q))), (.string ((bdT S L ns k) ++ ntT L (o, t, q)))] : List Value).getD i__ undef) (fun V => JD8 w (.slice adS L.length capS) 3 (f : Int) 0 0 (.slice (some ⟨b, off, none⟩) n cap) V) (by kernel_rfl) (hJw.carry (Below.refl _ _).drew) ?_ ?_
          · refine (stepsFrom_cons ?_ (stepsFrom_cons ?_ (stepsFrom_cons ?_ (stepsFrom_cons ?_ (stepsFrom_cons ?_ (stepsFrom_cons ?_ (stepsFrom_cons ?_ (stepsFrom_cons ?_ (stepsFrom_cons ?_ (stepsFrom_cons ?_ trivial))))))))))
            · exact step_move rfl trivial _ rfl (by kernel_rfl)
            · exact step_load rfl trivial _ _ _ rfl rfl (fun v hw => load_rosR hw.bx)
            · exact step_fieldAddr rfl trivial _ _ _ _ rfl rfl (fun v hw => field_n8 v _)
            · exact step_load rfl trivial _ _ _ rfl rfl (fun v hw => ld_n hw.bn.cells.2.2.2.2.2.2.2)
            · exact step_move rfl trivial _ rfl (by kernel_rfl)
            · exact step_indexAddr rfl trivial _ _ _ _ _ rfl rfl rfl (fun v hw => idx_n3 _ _ _ _ _ hkl v)
            · exact step_load rfl trivial _ _ _ rfl rfl (fun v hw => ld_nt3 ((hw.be.cell (p := ⟨b, off + k * 3, none⟩) hbl).trans y0) ((hw.be.cell (p := ⟨b, off + k * 3 + 1, none⟩) hbl).trans y1) ((hw.be.cell (p := ⟨b, off + k * 3 + 2, none⟩) hbl).trans y2))
            · exact step_call rfl trivial 42 _ _ [(.agg #[.slice adS L.length capS]), (nt o t q)] rfl (by kernel_rfl) (enters_of Tryz.func42 (by kernel_rfl) rfl) (fun V hw => (HTXk.out V hw.be).mono (by rintro e w' ⟨rfl, h⟩; exact ⟨rfl, hw.carry h⟩))
            · exact step_binOp rfl trivial _ _ _ _ _ _ _ rfl rfl rfl (fun v hw => bin_adds _ _ had)
            · exact step_assign rfl trivial _ rfl (by kernel_rfl) (fun _ h => h)
          intro W hW
          first | refine hK _ _ ?_ | refine (‹∀ (a : Act) (w : World), Code.wp Tryz.prog _ _ a w → _›) _ _ ?_ | skip
          simp only [finL, List.getD_cons_zero, List.getD_cons_succ, Nat.zero_add, Nat.reduceAdd, List.setIfInBounds_toArray, List.set_cons_zero, List.set_cons_succ]
          have hJe := hW
          have hst : (bdT S L ns k) ++ ntT L (o, t, q) = bdT S L ns (k + 1) := by have hk0 := HK0.out; subst hk0; rw [bd_0]; exact bd_1 hx
          rw [hst]
          clear hW hK hst
          go_wp2
          go_roundw
          case rel => exact ⟨k + 1, by simp, by omega, rfl, hJe⟩
          case measure => simp [vnatR]; omega
        · have hk0i : (0 : Int) < (k : Int) := by omega
          have had0 : (bdT S L ns k).size + (⟨#[32]⟩ : ByteArray).size ≤ 9223372036854775807 := by omega
          have had : (bdT S L ns k ++ ⟨#[32]⟩).size + (ntT L (o, t, q)).size ≤ 9223372036854775807 := by rw [ByteArray.size_append]; omega
          go_wp2
          rename_i hK
          refine wp_region_any hmx ?_
          refine wpAny_pure (fun i__ => ([(.string (bdT S L ns k ++ ⟨#[32]⟩)), (.agg #[.slice adS L.length capS]), (.pointer (some ⟨w.heap.size + 1, 7, none⟩)), (.slice (some ⟨b, off, none⟩) n cap), (.int .i64 (k : Int)), (.pointer (some ⟨b, off + k * 3, none⟩)), (nt o t q), (.string (ntT L (o, t, q))), (.string ((bdT S L ns k ++ ⟨#[32]⟩) ++ ntT L (o, t, q))), (.string ((bdT S L ns k ++ ⟨#[32]⟩) ++ ntT L (o, t, q)))] : List Value).getD i__ undef) (fun V => JD8 w (.slice adS L.length capS) 3 (f : Int) 0 0 (.slice (some ⟨b, off, none⟩) n cap) V) (by kernel_rfl) (hJw.carry (Below.refl _ _).drew) ?_ ?_
          · refine (stepsFrom_cons ?_ (stepsFrom_cons ?_ (stepsFrom_cons ?_ (stepsFrom_cons ?_ (stepsFrom_cons ?_ (stepsFrom_cons ?_ (stepsFrom_cons ?_ (stepsFrom_cons ?_ (stepsFrom_cons ?_ (stepsFrom_cons ?_ trivial))))))))))
            · exact step_move rfl trivial _ rfl (by kernel_rfl)
            · exact step_load rfl trivial _ _ _ rfl rfl (fun v hw => load_rosR hw.bx)
            · exact step_fieldAddr rfl trivial _ _ _ _ rfl rfl (fun v hw => field_n8 v _)
            · exact step_load rfl trivial _ _ _ rfl rfl (fun v hw => ld_n hw.bn.cells.2.2.2.2.2.2.2)
            · exact step_move rfl trivial _ rfl (by kernel_rfl)
            · exact step_indexAddr rfl trivial _ _ _ _ _ rfl rfl rfl (fun v hw => idx_n3 _ _ _ _ _ hkl v)
            · exact step_load rfl trivial _ _ _ rfl rfl (fun v hw => ld_nt3 ((hw.be.cell (p := ⟨b, off + k * 3, none⟩) hbl).trans y0) ((hw.be.cell (p := ⟨b, off + k * 3 + 1, none⟩) hbl).trans y1) ((hw.be.cell (p := ⟨b, off + k * 3 + 2, none⟩) hbl).trans y2))
            · exact step_call rfl trivial 42 _ _ [(.agg #[.slice adS L.length capS]), (nt o t q)] rfl (by kernel_rfl) (enters_of Tryz.func42 (by kernel_rfl) rfl) (fun V hw => (HTXk.out V hw.be).mono (by rintro e w' ⟨rfl, h⟩; exact ⟨rfl, hw.carry h⟩))
            · exact step_binOp rfl trivial _ _ _ _ _ _ _ rfl rfl rfl (fun v hw => bin_adds _ _ had)
            · exact step_assign rfl trivial _ rfl (by kernel_rfl) (fun _ h => h)
          intro W hW
          first | refine hK _ _ ?_ | refine (‹∀ (a : Act) (w : World), Code.wp Tryz.prog _ _ a w → _›) _ _ ?_ | skip
          simp only [finL, List.getD_cons_zero, List.getD_cons_succ, Nat.zero_add, Nat.reduceAdd, List.setIfInBounds_toArray, List.set_cons_zero, List.set_cons_succ]
          have hJe := hW
          have hst : (bdT S L ns k ++ ⟨#[32]⟩) ++ ntT L (o, t, q) = bdT S L ns (k + 1) := bd_s hk0 hx
          rw [hst]
          clear hW hK hst
          go_wp2
          go_roundw
          case rel => exact ⟨k + 1, by simp, by omega, rfl, hJe⟩
          case measure => simp [vnatR]; omega
      · have hkk : k = n := by omega
        subst hkk
        have hki : ¬ ((k : Int) < (k : Int)) := by omega
        have had : (bdT S L ns k).size + (⟨#[93]⟩ : ByteArray).size ≤ 9223372036854775807 := by omega
        go_wp2
        go_ret2
        exact HF.out _ hJw.be
/-- A note's box, a roster's, the document's roster's, a lent note's, while the law goes on. -/
structure JP8 (w : World) (b p q pl : Nat) (k f r : Int) (N : Nat) (v sl mp sr vl : Value) (V : World) : Prop where
  be : Below w.heap.size w V
  bn : Nb8 V b k f r N v
  bx : V.heap[p]? = some (.cells #[sl, mp] 33 (0, 0))
  br : V.heap[q]? = some (.cells #[sr] 60 (0, 0))
  bl : Nb8 V pl k f r N vl
theorem JP8.carry {w : World} {b p q pl : Nat} {k f r : Int} {N : Nat} {v sl mp sr vl : Value} {V U : World} (h : JP8 w b p q pl k f r N v sl mp sr vl V) (hb : Below V.heap.size V U) : JP8 w b p q pl k f r N v sl mp sr vl U := ⟨bel3 h.be hb, h.bn.carry hb, (hb.block _ (lt_at h.bx)).trans h.bx, (hb.block _ (lt_at h.br)).trans h.br, h.bl.carry hb⟩
theorem JP8.lent {w : World} {b p q pl : Nat} {k f r : Int} {N : Nat} {v sl mp sr vl : Value} {V : World} (h : JP8 w b p q pl k f r N v sl mp sr vl V) (h1 : b ≠ pl) (h2 : p ≠ pl) (h3 : q ≠ pl) (h4 : w.heap.size ≤ pl) (u : Value) : JP8 w b p q pl k f r N v sl mp sr u (V.setCell ⟨pl, 7, none⟩ u) :=
  ⟨h.be.setCell (p := ⟨pl, 7, none⟩) h4 _, (Below.heap_setCell _ _ _ _ h1).trans h.bn, (Below.heap_setCell _ _ _ _ h2).trans h.bx, (Below.heap_setCell _ _ _ _ h3).trans h.br, heap_setCell_same _ _ 7 _ _ _ h.bl⟩
theorem nts_set {V : World} {g pl : Nat} {m : List N3t} (h : NtsAt V g 0 m) (hne : g ≠ pl) (u : Value) : NtsAt (V.setCell ⟨pl, 7, none⟩ u) g 0 m := fun k x hk => by
  obtain ⟨c0, c1, c2⟩ := h k x hk
  have e : (V.setCell ⟨pl, 7, none⟩ u).heap[g]? = V.heap[g]? := Below.heap_setCell _ _ _ _ hne
  exact ⟨(World.cell?_of_block (a := ⟨g, _, none⟩) e).trans c0, (World.cell?_of_block (a := ⟨g, _, none⟩) e).trans c1, (World.cell?_of_block (a := ⟨g, _, none⟩) e).trans c2⟩
theorem nts_rdn {V : World} {g : Nat} {l m : List N3t} (h : NtsAt V g 0 (l ++ m)) (hg : g < V.heap.size) : RdN V (some ⟨g, 0, none⟩) l := fun _ => ⟨g, 0, rfl, hg, fun k x hk => h k x (by rw [List.getElem?_append_left (List.getElem?_eq_some_iff.1 hk).1]; exact hk)⟩
end Go.Proofs.YtnkpohkodkjkfaaGreatDoor
