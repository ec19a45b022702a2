/- The document's number (bytes of a number): what it answers; what lies there while its Bytes are made. -/
import Derived.Test.YtndogopllcpiiaaWsa
import Derived.Test.YtndogopllcpiiaaRfx
import Derived.Test.YtndogopllcpiiaaRnu
import Derived.Test.YtndogopllcpiiaaWrn
import Derived.Test.YtndogopllcpiiaaWrj
namespace Go.Proofs.Ytndogopllcpiiaa
open Go.RowKit Go.Shelf

set_option maxHeartbeats 2000000 in
set_option maxRecDepth 100000 in
theorem rnumber_any (base : Nat) (b0 : Value) (L : List Nat) (v m : Nat) (w : World) (hbase : base ≤ w.heap.size) (h : OwB w base b0 L) (hL : L.length ≤ 100000) (hm : m ≤ 8) : Calls Try.prog 40 #[b0, .int .i64 (v : Int), .int .i64 (m : Int)] w fun e w' => ∃ b', e = .returned b' ∧ OwB w' base b' (L ++ numB v m) ∧ Below base w w' := by
  obtain ⟨ic, hic, hz0, hz1, hz2⟩ := info_partsB
  go_enter Try.func40, Try.ntmps40
  go_wp2
  go_loopw [0, 7] (fun b i wz => ∃ (z : Int) (j : Nat) (C : List Nat), i = .int .i64 z ∧ Hid (z = (j : Int) - 1) ∧ -1 ≤ z ∧ z ≤ 8 ∧ j ≤ m ∧ C.length ≤ L.length + 8 ∧ Hid (C.length + j = L.length + m) ∧ Hid (C ++ numB v j = L ++ numB v m) ∧ OwB wz base b C ∧ Below base w wz) (fun _ i _ => match i with | .int _ z => (z + 1).toNat | _ => 0)
  case atStart => exact ⟨(m : Int) - 1, m, L, rfl, rfl, by omega, by omega, Nat.le_refl _, by omega, rfl, rfl, h, Below.refl _ _⟩
  case round =>
    obtain ⟨z, j, C, rfl, HZ, hz, hz8, hj, hC, HCL, HC, hrow, hbw⟩ := hrel
    have hsw := hbw.size
    by_cases hkl : 0 ≤ z
    · obtain ⟨q, rfl⟩ := Int.eq_ofNat_of_zero_le hkl
      have hjq : j = q + 1 := by have := HZ.out; omega
      subst hjq
      have HN : Hid ((C ++ [v / 2 ^ (8 * q) % 256]) ++ numB v q = L ++ numB v m) := by
        show (C ++ [v / 2 ^ (8 * q) % 256]) ++ numB v q = L ++ numB v m
        rw [← HC.out, numB, List.append_assoc]
        rfl
      obtain ⟨E, hE⟩ : ∃ E : Nat, 8 * q = E := ⟨_, rfl⟩
      rw [hE] at HN
      have h8 : (8 : Int) * (q : Int) = (E : Int) := by omega
      have hE64 : E ≤ 64 := by omega
      have hby := byte_of v E
      obtain ⟨D, hD⟩ : ∃ D : Nat, D = v / 2 ^ E % 256 := ⟨_, rfl⟩
      rw [← hD] at hby HN
      clear hE
      have hl2 : C.length ≤ 100008 := by omega
      have HC2 : Hid (C.length + (q + 1) = L.length + m) := HCL
      clear hD HCL
      unfold OwB at hrow
      clear h HC HZ
      have hbs := bs1
      go_wp2_with (at_builtin; refine wpList_append_own _ rfl _ _ 22 rfl base 5 ic _ 1 1 Try.underlying22 hic hz0 hz1 hz2 rfl (by decide) _ C.length (cB C) rfl (hrow.alloc _) ⟨wr.heap.size, 0, none⟩ 1 1 [_] rfl rfl (rowN _ #[_] _) (by simp [Value.oneCell']) (by unfold maxLen; omega) (by omega) (by simp; omega) ?_; intro v' w2 hown' hgrow _)
      go_roundw
      case rel =>
        refine ⟨(q : Int) - 1, q, C ++ [D], by simp, rfl, by omega, by omega, by omega, ?_, ?_, HN, ?_, (hbw.alloc (by omega) _).grown hgrow (by simp; omega) (fun q e => own_block hrow q e)⟩
        · have := HC2.out; simp; omega
        · show (C ++ [D]).length + q = L.length + m
          have := HC2.out; simp; omega
        · unfold OwB
          rw [cB_app, List.length_append]
          exact hown'
      case measure => simp
    · have hj0 : j = 0 := by have := HZ.out; omega
      subst hj0
      have HE : Hid (C = L ++ numB v m) := by have := HC.out; rw [numB, List.append_nil] at this; exact this
      clear HC HZ HCL
      go_wp2
      go_ret
      exact ⟨_, rfl, HE.out ▸ hrow, hbw⟩
theorem bs5 (W : World) (a b c d e : Int) : (Instr.buildSlice 22 5 #[(0, .int .u8 a), (1, .int .u8 b), (2, .int .u8 c), (3, .int .u8 d), (4, .int .u8 e)]).run Try.prog W = .ok (.slice (some ⟨W.heap.size, 0, none⟩) 5 5) (W.alloc (.cells #[.int .u8 a, .int .u8 b, .int .u8 c, .int .u8 d, .int .u8 e] 5)) := by
  go_simp
/-- What lies there while the document's form is made. -/
structure SR (w : World) (kd : Int) (fr : Nat) (rd : Int) (N : Nat) (v b : Value) (C : List Nat) (u : World) : Prop where
  rb : RB u w.heap.size kd fr rd N v
  be : Below w.heap.size w u
  sz : w.heap.size + 1 ≤ u.heap.size
  ow : OwB u (w.heap.size + 1) b C
  ln : C.length ≤ 600
theorem RB.lower {W W' : World} {b B : Nat} {k f r : Int} {N : Nat} {v : Value} (h : RB W b k f r N v) (hb : Below B W W') (hB : b < B) : RB W' b k f r N v := (hb.block b hB).trans h
theorem SR.step {w : World} {kd : Int} {fr : Nat} {rd : Int} {N : Nat} {v b : Value} {C : List Nat} {u u' : World} {b' : Value} {C' : List Nat} (h : SR w kd fr rd N v b C u) (hb : Below (w.heap.size + 1) u u') (ho : OwB u' (w.heap.size + 1) b' C') (hl : C'.length ≤ 600) : SR w kd fr rd N v b' C' u' :=
  ⟨h.rb.lower hb (Nat.lt_succ_self _), h.be.trans (hb.mono (Nat.le_succ _)), Nat.le_trans h.sz hb.size, ho, hl⟩
theorem SR.below {w : World} {kd : Int} {fr : Nat} {rd : Int} {N : Nat} {v b : Value} {C : List Nat} {u u' : World} (h : SR w kd fr rd N v b C u) (hb : Below u.heap.size u u') : SR w kd fr rd N v b C u' :=
  h.step (hb.mono h.sz) (h.ow.below hb) h.ln
theorem SR.app {w : World} {kd : Int} {fr : Nat} {rd : Int} {N : Nat} {v b : Value} {C : List Nat} {u u' : World} {b' : Value} {o : Obj} (xs : List Nat) (h : SR w kd fr rd N v b C u) (hg : (u.alloc o).grownBy u' b.ownBlock) (ho : u'.ownsRow (w.heap.size + 1) 5 1 b' (C.length + xs.length) (cB C ++ cB xs)) (hl : (C ++ xs).length ≤ 600) : SR w kd fr rd N v b' (C ++ xs) u' := by
  refine h.step (((Below.refl _ u).alloc h.sz o).grown hg (by simp; have := h.sz; omega) (fun k e => own_block h.ow k e)) ?_ hl
  unfold OwB
  rw [cB_app, List.length_append]
  exact ho
theorem load_rb {W : World} {p : Nat} {kd fr rd : Int} {N : Nat} {a : Option Addr} {n c : Nat} (h : RB W p kd fr rd N (.slice a n c)) : (Instr.loadAt 39 (.pointer (some ⟨p, 7, none⟩))).run Try.prog W = .ok (.slice a n c) W := by
  have c0 := h.cells.2.2.2.2.2.2.2
  go_simp
theorem field_rb (p : Nat) (W : World) : (Instr.fieldAt 41 (.pointer (some ⟨p, 0, none⟩)) 4).run Try.prog W = .ok (.pointer (some ⟨p, 7, none⟩)) W := by go_simp
theorem field_nt2 (b off : Nat) (W : World) : (Instr.fieldAt 82 (.pointer (some ⟨b, off, none⟩)) 2).run Try.prog W = .ok (.pointer (some ⟨b, off + 2, none⟩)) W := by go_simp
theorem load_kd {W : World} {b off : Nat} {l : List (Int × Int × Int)} (h : NtsAt W b off l) {k : Nat} {o t q : Int} (hx : l[k]? = some (o, t, q)) : (Instr.loadAt 3 (.pointer (some ⟨b, off + k * 3 + 2, none⟩))).run Try.prog W = .ok (.int .i64 q) W := by
  have := (h k _ hx).2.2
  go_simp
theorem conv8 (z : Nat) (h : z < 256) (w : World) : (convert 3 5 (.int .i64 (z : Int))).run Try.prog w = .ok (.int .u8 (z : Int)) w := by
  exact conv_int .u8 (z : Int) (by kernel_rfl) Try.underlying5 (by rw [IntKind.wrap_u8']; omega) w
/-- What lies there in the region that lays a notice's first two bytes. -/
structure JQ (w : World) (kd : Int) (fr : Nat) (rd : Int) (N : Nat) (v b : Value) (C : List Nat) (o q gb off : Nat) (l : List (Int × Int × Int)) (g : Nat × Value) (d15 d16 : Bool) (W : World) : Prop where
  rb : RB W w.heap.size kd fr rd N v
  be : Below w.heap.size w W
  sz : w.heap.size + 1 ≤ W.heap.size
  nt : NtsAt W gb off l
  ow : W.ownsRow (w.heap.size + 1) 5 1 (cond d16 g.2 b) (cond d16 (C.length + 2) C.length) (cond d16 (cB C ++ cB [o, q]) (cB C))
  bx : d15 = true → d16 = false → W.heap[g.1]? = some (.cells #[.int .u8 (o : Int), .int .u8 (q : Int)] 5 (0, 0))
section
variable {w : World} {kd : Int} {fr : Nat} {rd : Int} {N : Nat} {v b : Value} {C : List Nat} {o q gb off : Nat} {l : List (Int × Int × Int)} {g : Nat × Value} {W : World}
theorem JQ.build (hgb : gb < w.heap.size) (h : JQ w kd fr rd N v b C o q gb off l g false false W) : JQ w kd fr rd N v b C o q gb off l (W.heap.size, g.2) true false (W.alloc (.cells #[.int .u8 (o : Int), .int .u8 (q : Int)] 5)) := by
  have hb := al1' W (.cells #[.int .u8 (o : Int), .int .u8 (q : Int)] 5)
  exact ⟨h.rb.below hb, bel2 h.be hb, by have := h.sz; simp; omega, h.nt.carry (Nat.lt_of_lt_of_le hgb h.be.size) hb, row_below h.ow hb, fun _ _ => new_at rfl⟩
theorem JQ.app (hgb : gb < w.heap.size) (ty : TypeId) (hC : C.length ≤ 600) (h : JQ w kd fr rd N v b C o q gb off l g true false W) : ∃ v' W', (Builtin.append_ #[22, 22] ty #[b, .slice (some ⟨g.1, 0, none⟩) 2 2]).run Try.prog W = .ok v' W' ∧ JQ w kd fr rd N v b C o q gb off l (g.1, v') true true W' := by
  obtain ⟨ic, hic, hz0, hz1, hz2⟩ := info_partsB
  have hbx := h.bx rfl rfl
  have ho : W.ownsRow (w.heap.size + 1) 5 1 b C.length (cB C) := h.ow
  obtain ⟨v', W', hr, h2, h3, _, _⟩ := run_append_own_at (P := Try.prog) W (w.heap.size + 1) 22 ty 5 ic _ 1 1 Try.underlying22 hic hz0 hz1 hz2 rfl (by decide) b C.length (cB C) ho ⟨g.1, 0, none⟩ 2 2 (cB [o, q]) rfl (fun j u hj => by
      rw [add_pl, Nat.zero_add, cell_at hbx j]
      match j, hj with
      | 0, hj => simp [cB] at hj; subst hj; rfl
      | 1, hj => simp [cB] at hj; subst hj; rfl
      | j + 2, hj => simp [cB] at hj) (by simp [cB, Value.oneCell']) (by unfold maxLen; omega) (by omega) h.sz
  have hbl : Below (w.heap.size + 1) W W' := (Below.refl _ W).grown h3 h.sz (fun k e => own_block ho k e)
  refine ⟨v', W', hr, h.rb.lower hbl (Nat.lt_succ_self _), h.be.trans (hbl.mono (Nat.le_succ _)), Nat.le_trans h.sz hbl.size, ?_, h2, fun _ e => by cases e⟩
  intro k x hk
  have := h.nt k x hk
  exact ⟨(hbl.cell (p := ⟨gb, off + k * 3, none⟩) (Nat.lt_succ_of_lt hgb)).trans this.1, (hbl.cell (p := ⟨gb, off + k * 3 + 1, none⟩) (Nat.lt_succ_of_lt hgb)).trans this.2.1, (hbl.cell (p := ⟨gb, off + k * 3 + 2, none⟩) (Nat.lt_succ_of_lt hgb)).trans this.2.2⟩
end
section
variable {G : Type} {P : Program} {md : Region.Mode} {ops : Array Oper} {Q : Exit → Act → World → Prop} {X0 : Array Value} {val : G → Nat → Value} {J : G → (Nat → Bool) → World → Prop} {i : Nat} {o : Oper}
theorem stepG_build2 (hi : ops[i]? = some o) (hg : o.guard = none) (t : TypeId) (x y : Operand) (v u : Value) (ho : o.op = .buildSlice t 2 #[(0, x), (1, y)]) (hx : ∀ g, rdo md ops X0 (val g) i o x = some v) (hy : ∀ g, rdo md ops X0 (val g) i o y = some u)
    (h : ∀ g d w, J g d w → d i = false → (∀ j oj, ops[j]? = some oj → d j = true → ∀ k, bindsOn md oj k = true → d k = true) → ∃ g' w', (Instr.buildSlice t 2 #[(0, v), (1, u)]).run P w = .ok (val g' i) w' ∧ (∀ j, d j = true → val g' j = val g j) ∧ J g' (fun j => if j = i then true else d j) w') : StepG P md ops Q X0 val J i o := by
  intro g d a w hJ hun hdep hcl hS
  have hS' : Seen md ops X0 (val g) i o a := hS
  obtain ⟨g', w', h1, h2, h3⟩ := h g d w hJ hun hcl
  unfold wpOp
  rw [hi]
  simp only [Region.wanted, hg, if_true]
  refine .inl ?_
  unfold Oper.wp execOp
  simp only [ho, List.map_toArray, List.map_cons, List.map_nil, hS'.eval (hx g), hS'.eval (hy g), Sem.run_bind, h1, Result.andThen_ok, Sem.run_pure, Oper.upon_value]
  exact ⟨g', h2, rfl, h3⟩
theorem stepG_append (hi : ops[i]? = some o) (hg : o.guard = none) (t : TypeId) (x y : Operand) (vx vy : G → Value) (ho : o.op = .call { callee := .builtin .append, args := #[x, y], argTypes := #[t, t] }) (hx : ∀ g, rdo md ops X0 (val g) i o x = some (vx g)) (hy : ∀ g, rdo md ops X0 (val g) i o y = some (vy g))
    (h : ∀ g d w, J g d w → d i = false → (∀ j, bindsOn md o j = true → d j = true) → (∀ j oj, ops[j]? = some oj → d j = true → ∀ k, bindsOn md oj k = true → d k = true) → ∃ g' w', (Builtin.append_ #[t, t] o.type #[vx g, vy g]).run P w = .ok (val g' i) w' ∧ (∀ j, d j = true → val g' j = val g j) ∧ J g' (fun j => if j = i then true else d j) w') : StepG P md ops Q X0 val J i o := by
  intro g d a w hJ hun hdep hcl hS
  have hS' : Seen md ops X0 (val g) i o a := hS
  obtain ⟨g', w', h1, h2, h3⟩ := h g d w hJ hun hdep hcl
  unfold wpOp
  rw [hi]
  simp only [Region.wanted, hg, if_true]
  refine .inl ?_
  unfold Oper.wp execOp
  simp only [ho, resolve, invoke, builtin, List.map_toArray, List.map_cons, List.map_nil, hS'.eval (hx g), hS'.eval (hy g), Sem.run_bind, h1, Result.andThen_ok, Sem.run_pure, Oper.upon_value]
  exact ⟨g', h2, rfl, h3⟩
end
end Go.Proofs.Ytndogopllcpiiaa
namespace Go.Proofs.Ytndogopllcpiiaa
open Go.RowKit Go.Shelf

set_option maxHeartbeats 1000000 in
set_option maxRecDepth 100000 in
theorem value_any (ad : Option Addr) (cap : Nat) (l : List Nat) (w : World) (h : RdB w ad l) (hb : Byt l) (hl : l.length ≤ 7) : Calls Try.prog 65 #[.slice ad l.length cap] w fun e w' => e = .returned (.int .i64 (valB 0 l : Nat)) ∧ w' = w := by
  obtain ⟨R, hR⟩ : ∃ R, valB 0 l = R := ⟨_, rfl⟩
  rw [hR]
  have HR : Hid (valB 0 (l.drop 0) = R) := hR
  clear hR
  go_enter Try.func65, Try.ntmps65
  go_wp2
  go_loopw [3, 4] (fun p i wz => ∃ (k a : Nat), p = .int .i64 a ∧ i = .int .i64 k ∧ k ≤ l.length ∧ a < 2 ^ (8 * k) ∧ Hid (valB a (l.drop k) = R) ∧ wz = w) (fun _ i _ => l.length - vnatW i)
  case atStart => exact ⟨0, 0, rfl, rfl, Nat.zero_le _, by decide, HR, rfl⟩
  case round =>
    obtain ⟨k, a, rfl, rfl, hk, ha, HK, rfl⟩ := hrel
    by_cases hkl : k < l.length
    · obtain ⟨g, off, e1, hbl, hat⟩ := h (fun e => by subst e; simp at hkl)
      subst e1
      obtain ⟨x, hx⟩ := get_lt hkl
      have c0 := hat k _ hx
      have hx8 := byt_get8 hb hx
      have HS := valB_drop l k a x hx
      rw [HK.out] at HS
      have HS2 : Hid (R = valB (a * 256 + x) (l.drop (k + 1))) := HS
      clear HS HK HR
      have hki : (k : Int) < (l.length : Int) := by omega
      have h6 : 2 ^ (8 * k) ≤ 2 ^ (8 * 6) := Nat.pow_le_pow_right (by decide) (by omega)
      have ha6 : a < 281474976710656 := Nat.lt_of_lt_of_le ha h6
      have hnew : Hid (a * 256 + x < 2 ^ (8 * (k + 1))) := by
        show a * 256 + x < 2 ^ (8 * (k + 1))
        rw [Nat.mul_add, Nat.pow_add]
        generalize 2 ^ (8 * k) = z at *
        omega
      clear h6 ha
      go_wp2
      go_roundw
      case rel => exact ⟨k + 1, a * 256 + x, by simp, by simp, by omega, hnew.out, HS2.out.symm, trivial⟩
      case measure => simp [vnatW]; omega
    · have hkk : k = l.length := by omega
      subst hkk
      have hki : ¬ (l.length : Int) < (l.length : Int) := by omega
      have HE : Hid (R = a) := by have := HK.out; rw [List.drop_length] at this; exact this.symm
      clear HK HR
      go_wp2
      go_ret
      rw [HE.out]
      exact ⟨rfl, rfl⟩
set_option maxHeartbeats 1000000 in
set_option maxRecDepth 100000 in
theorem rput_any (N i : Nat) (hN : N < S100) (hi : i < 100) (w : World) : Calls Try.prog 66 #[.agg #[.int .u32 (wd N 0 : Nat), .int .u32 (wd N 1 : Nat), .int .u32 (wd N 2 : Nat), .int .u32 (wd N 3 : Nat)], .int .i64 (i : Int)] w fun e w' => e = .returned (.agg #[.int .u32 (wd (N ||| 2 ^ i) 0 : Nat), .int .u32 (wd (N ||| 2 ^ i) 1 : Nat), .int .u32 (wd (N ||| 2 ^ i) 2 : Nat), .int .u32 (wd (N ||| 2 ^ i) 3 : Nat)]) ∧ Below w.heap.size w w' := by
  have hw0 := rWith_any N (i : Int)
  have hV : withV N (i : Int) = .tuple #[sv (N ||| 2 ^ i), .int .i64 0] := by
    unfold withV
    rw [if_pos (by omega), Int.toNat_natCast, cln, Nat.mod_eq_of_lt hN]
  rw [hV] at hw0
  generalize N ||| 2 ^ i = M at *
  simp only [sv] at hw0
  have hb0 := al2x w (.cells #[.int .u32 (wd N 0 : Nat), .int .u32 (wd N 1 : Nat), .int .u32 (wd N 2 : Nat), .int .u32 (wd N 3 : Nat)] 38) (.cells #[.int .u32 0, .int .u32 0, .int .u32 0, .int .u32 0] 38)
  have hR : ((w.alloc (.cells #[.int .u32 (wd N 0 : Nat), .int .u32 (wd N 1 : Nat), .int .u32 (wd N 2 : Nat), .int .u32 (wd N 3 : Nat)] 38)).alloc (.cells #[.int .u32 0, .int .u32 0, .int .u32 0, .int .u32 0] 38)).heap[w.heap.size + 1]? = some (.cells #[.int .u32 0, .int .u32 0, .int .u32 0, .int .u32 0] 38 (0, 0)) := new_at (by simp)
  go_enter Try.func66, Try.ntmps66
  go_wp2_with (go_at_call 74; (with_reducible refine (hw0 _).mono ?_); rintro e u1 ⟨rfl, hb1⟩; have hR1 := (hb1.block _ (lt_at hR)).trans hR; have hb2 := al1' u1 (.cells #[.int .u32 (wd M 0 : Nat), .int .u32 (wd M 1 : Nat), .int .u32 (wd M 2 : Nat), .int .u32 (wd M 3 : Nat)] 38); have hR2 := (hb2.block _ (lt_at hR1)).trans hR1; have r0 := cell_at hR2 0; have r1 := cell_at hR2 1; have r2 := cell_at hR2 2; have r3 := cell_at hR2 3; have z0 := thaw_at hR2 0; have z1 := thaw_at hR2 1; have z2 := thaw_at hR2 2; have z3 := thaw_at hR2 3; simp at r0 r1 r2 r3)
  refine bodyPost_ret (results_cell_row rfl _ _ (w.heap.size + 1) _ _ (0, 0) _ rfl ((set_get 3 _ (set_get 2 _ (set_get 1 _ (set_get 0 _ hR2)))).trans rfl) Try.underlying38 rfl (by kernel_rfl)) rfl ⟨by simp, ?_⟩
  exact ((((bel2 (bel2 hb0 hb1) hb2).setCell (p := ⟨w.heap.size + 1, 0, none⟩) (by simp) _).setCell (p := ⟨w.heap.size + 1, 1, none⟩) (by simp) _).setCell (p := ⟨w.heap.size + 1, 2, none⟩) (by simp) _).setCell (p := ⟨w.heap.size + 1, 3, none⟩) (by simp) _
end Go.Proofs.Ytndogopllcpiiaa
namespace Go.Proofs.Ytndogopllcpiiaa
open Go.RowKit Go.Shelf

theorem nm1 {b : List Nat} {i x : Nat} (h : b[i]? = some x) : nm b i 1 = x := by
  obtain ⟨hi, rfl⟩ := List.getElem?_eq_some_iff.1 h
  rw [nm, List.drop_eq_getElem_cons hi, List.take_succ_cons, List.take_zero, valB, valB]
  omega
theorem nm2 {b : List Nat} {x y : Nat} (h : b[0]? = some x) (h2 : b[1]? = some y) : nm b 0 2 = x * 256 + y := by
  obtain ⟨hi, rfl⟩ := List.getElem?_eq_some_iff.1 h
  obtain ⟨hj, rfl⟩ := List.getElem?_eq_some_iff.1 h2
  rw [nm, List.drop_eq_getElem_cons hi, List.drop_eq_getElem_cons hj, List.take_succ_cons, List.take_succ_cons, List.take_zero, valB, valB, valB]
  omega
theorem getD_of {b : List Nat} {i x : Nat} (h : b[i]? = some x) : b.getD i 0 = x := by simp [List.getD, h]
/-- What read answers. -/
def RrO (n : Nat) (bs : List Nat) (w : World) (e : Ending) (w' : World) : Prop :=
  match rdE n bs with
  | .error er => (∃ k f r N a m c, e = .returned (.tuple #[rnv k f r N (.slice a m c), .int .i64 er])) ∧ Below w.heap.size w w'
  | .ok (kd, fr, rd, N, l) => ∃ a c, e = .returned (.tuple #[rnv (kd : Int) (fr : Int) (rd : Int) N (.slice a l.length c), .int .i64 0]) ∧ w'.ownsRow w.heap.size 82 3 (.slice a l.length c) l.length (fl l) ∧ Below w.heap.size w w'
theorem rro_err {n : Nat} {bs : List Nat} {w w' : World} {er k f r : Int} {N : Nat} {a : Option Addr} {m c : Nat} (h : rdE n bs = .error er) (hb : Below w.heap.size w w') : RrO n bs w (.returned (.tuple #[rnv k f r N (.slice a m c), .int .i64 er])) w' := by
  unfold RrO
  rw [h]
  exact ⟨⟨_, _, _, _, _, _, _, rfl⟩, hb⟩
theorem rro_ok {n : Nat} {bs : List Nat} {w w' : World} {kd fr rd N : Nat} {l : List (Int × Int × Int)} {a : Option Addr} {c : Nat} (h : rdE n bs = .ok (kd, fr, rd, N, l)) (ho : w'.ownsRow w.heap.size 82 3 (.slice a l.length c) l.length (fl l)) (hb : Below w.heap.size w w') : RrO n bs w (.returned (.tuple #[rnv (kd : Int) (fr : Int) (rd : Int) N (.slice a l.length c), .int .i64 0])) w' := by
  unfold RrO
  rw [h]
  exact ⟨a, c, rfl, ho, hb⟩
theorem RB.other {W : World} {b c j : Nat} {k f r : Int} {N : Nat} {v y : Value} (h : RB W b k f r N v) (hc : b ≠ c) : RB (W.setCell ⟨c, j, none⟩ y) b k f r N v := (Below.heap_setCell _ _ _ _ (by simpa using hc)).trans h
theorem read_end {R : Ending → World → Prop} {a : Act} {W : World} {b : Nat} {k f r er : Int} {N : Nat} {v : Value} (h4 : a.tmps[4]?.getD undef = .pointer (some ⟨b, 0, none⟩)) (h5 : a.tmps[5]?.getD undef = .int .i64 er) (hd : a.defers = []) (hA : RB W b 0 0 0 0 (.slice none 0 0)) (hR : R (.returned (.tuple #[rnv k f r N v, .int .i64 er])) ((((((((W.setCell ⟨b, 0, none⟩ (.int .i64 k)).setCell ⟨b, 1, none⟩ (.int .i64 f)).setCell ⟨b, 2, none⟩ (.int .i64 r)).setCell ⟨b, 3, none⟩ (.int .u32 (wd N 0 : Nat))).setCell ⟨b, 4, none⟩ (.int .u32 (wd N 1 : Nat))).setCell ⟨b, 5, none⟩ (.int .u32 (wd N 2 : Nat))).setCell ⟨b, 6, none⟩ (.int .u32 (wd N 3 : Nat))).setCell ⟨b, 7, none⟩ v)) : bodyPost Try.prog Try.f48 R .ret a ((((((((W.setCell ⟨b, 0, none⟩ (.int .i64 k)).setCell ⟨b, 1, none⟩ (.int .i64 f)).setCell ⟨b, 2, none⟩ (.int .i64 r)).setCell ⟨b, 3, none⟩ (.int .u32 (wd N 0 : Nat))).setCell ⟨b, 4, none⟩ (.int .u32 (wd N 1 : Nat))).setCell ⟨b, 5, none⟩ (.int .u32 (wd N 2 : Nat))).setCell ⟨b, 6, none⟩ (.int .u32 (wd N 3 : Nat))).setCell ⟨b, 7, none⟩ v) := by
  have hx := (set_get 7 v (set_get 6 (.int .u32 (wd N 3 : Nat)) (set_get 5 (.int .u32 (wd N 2 : Nat)) (set_get 4 (.int .u32 (wd N 1 : Nat)) (set_get 3 (.int .u32 (wd N 0 : Nat)) (set_get 2 (.int .i64 r) (set_get 1 (.int .i64 f) (set_get 0 (.int .i64 k) hA))))))))
  have c0 := cell_at hx 0
  have c1 := cell_at hx 1
  have c2 := cell_at hx 2
  have c3 := cell_at hx 3
  have c4 := cell_at hx 4
  have c5 := cell_at hx 5
  have c6 := cell_at hx 6
  have c7 := cell_at hx 7
  simp at c0 c1 c2 c3 c4 c5 c6 c7
  refine bodyPost_ret (v := .tuple #[rnv k f r N v, .int .i64 er]) ?_ hd hR
  simp [results, Try.results48, go_sem, h4, h5, c0, c1, c2, c3, c4, c5, c6, c7, rnv]
/-- The two boxes of read. -/
structure SX (w : World) (kd fr rd : Int) (N : Nat) (v : Value) (W : World) : Prop where
  a : RB W w.heap.size 0 0 0 0 (.slice none 0 0)
  x : RB W (w.heap.size + 1) kd fr rd N v
  be : Below w.heap.size w W
  sz : w.heap.size + 2 ≤ W.heap.size
theorem SX.lower {w : World} {kd fr rd : Int} {N : Nat} {v : Value} {W W' : World} (h : SX w kd fr rd N v W) (hb : Below (w.heap.size + 2) W W') : SX w kd fr rd N v W' :=
  ⟨h.a.lower hb (by omega), h.x.lower hb (by omega), h.be.trans (hb.mono (by omega)), Nat.le_trans h.sz hb.size⟩
theorem SX.below {w : World} {kd fr rd : Int} {N : Nat} {v : Value} {W W' : World} (h : SX w kd fr rd N v W) (hb : Below W.heap.size W W') : SX w kd fr rd N v W' := h.lower (hb.mono h.sz)
theorem SX.put {w : World} {kd fr rd : Int} {N : Nat} {v : Value} {W : World} (h : SX w kd fr rd N v W) {kd' fr' rd' : Int} {N' : Nat} {v' : Value} (j : Nat) (y : Value) (hx : RB (W.setCell ⟨w.heap.size + 1, j, none⟩ y) (w.heap.size + 1) kd' fr' rd' N' v') : SX w kd' fr' rd' N' v' (W.setCell ⟨w.heap.size + 1, j, none⟩ y) :=
  ⟨(Below.heap_setCell _ _ _ _ (by simp)).trans h.a, hx, h.be.setCell (p := ⟨w.heap.size + 1, j, none⟩) (by simp) _, by simpa [World.setCell] using h.sz⟩
theorem SX.set0 {w : World} {kd fr rd : Int} {N : Nat} {v : Value} {W : World} (h : SX w kd fr rd N v W) (y : Int) : SX w y fr rd N v (W.setCell ⟨w.heap.size + 1, 0, none⟩ (.int .i64 y)) := h.put 0 _ ((set_get 0 _ h.x).trans (by simp))
theorem SX.set1 {w : World} {kd fr rd : Int} {N : Nat} {v : Value} {W : World} (h : SX w kd fr rd N v W) (y : Int) : SX w kd y rd N v (W.setCell ⟨w.heap.size + 1, 1, none⟩ (.int .i64 y)) := h.put 1 _ ((set_get 1 _ h.x).trans (by simp))
theorem SX.set2 {w : World} {kd fr rd : Int} {N : Nat} {v : Value} {W : World} (h : SX w kd fr rd N v W) (y : Int) : SX w kd fr y N v (W.setCell ⟨w.heap.size + 1, 2, none⟩ (.int .i64 y)) := h.put 2 _ ((set_get 2 _ h.x).trans (by simp))
theorem SX.set7 {w : World} {kd fr rd : Int} {N : Nat} {v : Value} {W : World} (h : SX w kd fr rd N v W) (y : Value) : SX w kd fr rd N y (W.setCell ⟨w.heap.size + 1, 7, none⟩ y) := h.put 7 _ ((set_get 7 _ h.x).trans (by simp))
theorem SX.heard {w : World} {kd fr rd : Int} {N : Nat} {v : Value} {W : World} (h : SX w kd fr rd N v W) (M : Nat) : SX w kd fr rd M v ((((W.setCell ⟨w.heap.size + 1, 3, none⟩ (.int .u32 (wd M 0 : Nat))).setCell ⟨w.heap.size + 1, 4, none⟩ (.int .u32 (wd M 1 : Nat))).setCell ⟨w.heap.size + 1, 5, none⟩ (.int .u32 (wd M 2 : Nat))).setCell ⟨w.heap.size + 1, 6, none⟩ (.int .u32 (wd M 3 : Nat))) := by
  refine ⟨?_, (set_get 6 _ (set_get 5 _ (set_get 4 _ (set_get 3 _ h.x)))).trans (by simp), ?_, by simpa [World.setCell] using h.sz⟩
  · exact (Below.heap_setCell _ _ _ _ (by simp)).trans ((Below.heap_setCell _ _ _ _ (by simp)).trans ((Below.heap_setCell _ _ _ _ (by simp)).trans ((Below.heap_setCell _ _ _ _ (by simp)).trans h.a)))
  · exact (((h.be.setCell (p := ⟨w.heap.size + 1, 3, none⟩) (by simp) _).setCell (p := ⟨w.heap.size + 1, 4, none⟩) (by simp) _).setCell (p := ⟨w.heap.size + 1, 5, none⟩) (by simp) _).setCell (p := ⟨w.heap.size + 1, 6, none⟩) (by simp) _
theorem SX.new (w : World) : SX w 0 0 0 0 (.slice none 0 0) ((w.alloc (.cells #[.int .i64 0, .int .i64 0, .int .i64 0, .int .u32 0, .int .u32 0, .int .u32 0, .int .u32 0, .slice none 0 0] 41)).alloc (.cells #[.int .i64 0, .int .i64 0, .int .i64 0, .int .u32 0, .int .u32 0, .int .u32 0, .int .u32 0, .slice none 0 0] 41)) :=
  ⟨(old_at (new_at rfl)).trans (by simp [wd_z]), (new_at (by simp)).trans (by simp [wd_z]), al2x w _ _, by simp⟩
set_option maxHeartbeats 4000000 in
set_option maxRecDepth 100000 in
theorem rr_head (ad : Option Addr) (cap : Nat) (bs : List Nat) (n : Nat) (w : World) (h : RdB w ad bs) (hb : Byt bs) (hl : bs.length ≤ 1024) (hc : bs.length ≤ cap) (hn : 1 ≤ n ∧ n ≤ 100) (hK : ∀ kd y, (1 ≤ kd ∧ kd ≤ 3) → y < n → bs[0]? = some 101 → bs[1]? = some 115 → bs[2]? = some kd → bs[3]? = some n → bs[4]? = some y → Calls Try.prog 48 #[.slice ad bs.length cap, .int .i64 (n : Int)] w (RrO n bs w)) : Calls Try.prog 48 #[.slice ad bs.length cap, .int .i64 (n : Int)] w (RrO n bs w) := by
  have hS0 := SX.new w
  have hrW := h.carry hS0.be
  obtain ⟨W0, hW0⟩ : ∃ W0, (w.alloc (.cells #[.int .i64 0, .int .i64 0, .int .i64 0, .int .u32 0, .int .u32 0, .int .u32 0, .int .u32 0, .slice none 0 0] 41)).alloc (.cells #[.int .i64 0, .int .i64 0, .int .i64 0, .int .u32 0, .int .u32 0, .int .u32 0, .int .u32 0, .slice none 0 0] 41) = W0 := ⟨_, rfl⟩
  rw [hW0] at hS0 hrW
  have hbW := hS0.be
  have hSA := hS0.a
  obtain ⟨a0, a1, a2, a3, a4, a5, a6, a7⟩ := hS0.a.cells
  obtain ⟨za0, za1, za2, za3, za4, za5, za6, za7⟩ := hS0.a.thaw
  obtain ⟨d0, d1, d2, d3, d4, d5, d6, d7⟩ := hS0.x.cells
  obtain ⟨z0, z1, z2, z3, z4, z5, z6, z7⟩ := hS0.x.thaw
  by_cases c2 : bs.length < 2
  · have HE : Hid (rdE n bs = .error 76) := by show rdE n bs = _; rw [rdE, rdF, if_pos c2]
    have c2i : (bs.length : Int) < 2 := by omega
    clear hK
    go_enter Try.func48, Try.ntmps48
    go_wp2
    exact read_end (b := w.heap.size) (N := 0) rfl rfl rfl (by repeat' first | (with_reducible exact hSA) | (with_reducible refine RB.other ?_ (by simp))) (rro_err HE.out (by repeat' first | (with_reducible exact hbW) | (with_reducible refine Below.setCell (p := ⟨_, _, _⟩) ?_ (by simp) _)))
  have c2i : ¬ (bs.length : Int) < 2 := by omega
  obtain ⟨g, off, rfl, hgl, hat⟩ := hrW (fun e => by subst e; simp at c2)
  obtain ⟨y0, e0⟩ := get_lt (show 0 < bs.length by omega)
  obtain ⟨y1, e1⟩ := get_lt (show 1 < bs.length by omega)
  have b0 := hat 0 y0 e0
  have b1 := hat 1 y1 e1
  rw [Nat.add_zero] at b0
  have i0 : (0 : Int) < (bs.length : Int) := by omega
  have i1 : (1 : Int) < (bs.length : Int) := by omega
  have q0 := byt_get8 hb e0
  have q1 := byt_get8 hb e1
  by_cases m0 : y0 ≠ 101
  · have HE : Hid (rdE n bs = .error 70) := by show rdE n bs = _; rw [rdE, rdF, if_neg c2, if_pos (by rw [nm2 e0 e1]; omega)]
    have m0i : ((y0 : Int) != 101) = true := by simp; omega
    clear hK
    go_enter Try.func48, Try.ntmps48
    go_wp2
    exact read_end (b := w.heap.size) (N := 0) rfl rfl rfl (by repeat' first | (with_reducible exact hSA) | (with_reducible refine RB.other ?_ (by simp))) (rro_err HE.out (by repeat' first | (with_reducible exact hbW) | (with_reducible refine Below.setCell (p := ⟨_, _, _⟩) ?_ (by simp) _)))
  obtain rfl : y0 = 101 := by omega
  by_cases m1 : y1 ≠ 115
  · have HE : Hid (rdE n bs = .error 70) := by show rdE n bs = _; rw [rdE, rdF, if_neg c2, if_pos (by rw [nm2 e0 e1]; omega)]
    have m1i : ((y1 : Int) != 115) = true := by simp; omega
    clear hK
    go_enter Try.func48, Try.ntmps48
    go_wp2
    exact read_end (b := w.heap.size) (N := 0) rfl rfl rfl (by repeat' first | (with_reducible exact hSA) | (with_reducible refine RB.other ?_ (by simp))) (rro_err HE.out (by repeat' first | (with_reducible exact hbW) | (with_reducible refine Below.setCell (p := ⟨_, _, _⟩) ?_ (by simp) _)))
  obtain rfl : y1 = 115 := by omega
  by_cases c3 : bs.length < 3
  · have HE : Hid (rdE n bs = .error 76) := by show rdE n bs = _; rw [rdE, rdF, if_neg c2, if_neg (by rw [nm2 e0 e1]; simp), if_pos c3]
    have c3i : (bs.length : Int) < 3 := by omega
    clear hK
    go_enter Try.func48, Try.ntmps48
    go_wp2
    exact read_end (b := w.heap.size) (N := 0) rfl rfl rfl (by repeat' first | (with_reducible exact hSA) | (with_reducible refine RB.other ?_ (by simp))) (rro_err HE.out (by repeat' first | (with_reducible exact hbW) | (with_reducible refine Below.setCell (p := ⟨_, _, _⟩) ?_ (by simp) _)))
  have c3i : ¬ (bs.length : Int) < 3 := by omega
  obtain ⟨y2, e2⟩ := get_lt (show 2 < bs.length by omega)
  have b2 := hat 2 y2 e2
  have i2 : (2 : Int) < (bs.length : Int) := by omega
  have q2 := byt_get8 hb e2
  by_cases k1 : y2 < 1
  · have HE : Hid (rdE n bs = .error 71) := by show rdE n bs = _; rw [rdE, rdF, if_neg c2, if_neg (by rw [nm2 e0 e1]; simp), if_neg c3, if_pos (by rw [nm1 e2]; omega)]
    have k1i : (y2 : Int) < 1 := by omega
    clear hK
    go_enter Try.func48, Try.ntmps48
    go_wp2
    exact read_end (b := w.heap.size) (N := 0) rfl rfl rfl (by repeat' first | (with_reducible exact hSA) | (with_reducible refine RB.other ?_ (by simp))) (rro_err HE.out (by repeat' first | (with_reducible exact hbW) | (with_reducible refine Below.setCell (p := ⟨_, _, _⟩) ?_ (by simp) _)))
  have k1i : ¬ (y2 : Int) < 1 := by omega
  by_cases k3 : 3 < y2
  · have HE : Hid (rdE n bs = .error 71) := by show rdE n bs = _; rw [rdE, rdF, if_neg c2, if_neg (by rw [nm2 e0 e1]; simp), if_neg c3, if_pos (by rw [nm1 e2]; omega)]
    have k3i : (3 : Int) < (y2 : Int) := by omega
    clear hK
    go_enter Try.func48, Try.ntmps48
    go_wp2
    exact read_end (b := w.heap.size) (N := 0) rfl rfl rfl (by repeat' first | (with_reducible exact hSA) | (with_reducible refine RB.other ?_ (by simp))) (rro_err HE.out (by repeat' first | (with_reducible exact hbW) | (with_reducible refine Below.setCell (p := ⟨_, _, _⟩) ?_ (by simp) _)))
  have k3i : ¬ (3 : Int) < (y2 : Int) := by omega
  by_cases c4 : bs.length < 4
  · have HE : Hid (rdE n bs = .error 76) := by show rdE n bs = _; rw [rdE, rdF, if_neg c2, if_neg (by rw [nm2 e0 e1]; simp), if_neg c3, if_neg (by rw [nm1 e2]; omega), if_pos c4]
    have c4i : (bs.length : Int) < 4 := by omega
    clear hK
    go_enter Try.func48, Try.ntmps48
    go_wp2
    exact read_end (b := w.heap.size) (N := 0) rfl rfl rfl (by repeat' first | (with_reducible exact hSA) | (with_reducible refine RB.other ?_ (by simp))) (rro_err HE.out (by repeat' first | (with_reducible exact hbW) | (with_reducible refine Below.setCell (p := ⟨_, _, _⟩) ?_ (by simp) _)))
  have c4i : ¬ (bs.length : Int) < 4 := by omega
  obtain ⟨y3, e3⟩ := get_lt (show 3 < bs.length by omega)
  have b3 := hat 3 y3 e3
  have i3 : (3 : Int) < (bs.length : Int) := by omega
  have q3 := byt_get8 hb e3
  by_cases s3 : y3 ≠ n
  · have HE : Hid (rdE n bs = .error 102) := by show rdE n bs = _; rw [rdE, rdF, if_neg c2, if_neg (by rw [nm2 e0 e1]; simp), if_neg c3, if_neg (by rw [nm1 e2]; omega), if_neg c4, if_pos (by rw [nm1 e3]; exact s3)]
    have s3i : ((y3 : Int) != (n : Int)) = true := by simp; omega
    clear hK
    go_enter Try.func48, Try.ntmps48
    go_wp2
    exact read_end (b := w.heap.size) (N := 0) rfl rfl rfl (by repeat' first | (with_reducible exact hSA) | (with_reducible refine RB.other ?_ (by simp))) (rro_err HE.out (by repeat' first | (with_reducible exact hbW) | (with_reducible refine Below.setCell (p := ⟨_, _, _⟩) ?_ (by simp) _)))
  obtain rfl : y3 = n := by omega
  by_cases c5 : bs.length < 5
  · have HE : Hid (rdE y3 bs = .error 76) := by show rdE y3 bs = _; rw [rdE, rdF, if_neg c2, if_neg (by rw [nm2 e0 e1]; simp), if_neg c3, if_neg (by rw [nm1 e2]; omega), if_neg c4, if_neg (by rw [nm1 e3]; simp), if_pos c5]
    have c5i : (bs.length : Int) < 5 := by omega
    clear hK
    go_enter Try.func48, Try.ntmps48
    go_wp2
    exact read_end (b := w.heap.size) (N := 0) rfl rfl rfl (by repeat' first | (with_reducible exact hSA) | (with_reducible refine RB.other ?_ (by simp))) (rro_err HE.out (by repeat' first | (with_reducible exact hbW) | (with_reducible refine Below.setCell (p := ⟨_, _, _⟩) ?_ (by simp) _)))
  have c5i : ¬ (bs.length : Int) < 5 := by omega
  obtain ⟨y4, e4⟩ := get_lt (show 4 < bs.length by omega)
  have b4 := hat 4 y4 e4
  have i4 : (4 : Int) < (bs.length : Int) := by omega
  have q4 := byt_get8 hb e4
  by_cases f4 : y3 ≤ y4
  · have HE : Hid (rdE y3 bs = .error 72) := by show rdE y3 bs = _; rw [rdE, rdF, if_neg c2, if_neg (by rw [nm2 e0 e1]; simp), if_neg c3, if_neg (by rw [nm1 e2]; omega), if_neg c4, if_neg (by rw [nm1 e3]; simp), if_neg c5, if_pos (by rw [nm1 e4]; exact f4)]
    have f4i : (y3 : Int) ≤ (y4 : Int) := by omega
    clear hK
    go_enter Try.func48, Try.ntmps48
    go_wp2
    exact read_end (b := w.heap.size) (N := 0) rfl rfl rfl (by repeat' first | (with_reducible exact hSA) | (with_reducible refine RB.other ?_ (by simp))) (rro_err HE.out (by repeat' first | (with_reducible exact hbW) | (with_reducible refine Below.setCell (p := ⟨_, _, _⟩) ?_ (by simp) _)))
  exact hK y2 y4 (by omega) (by omega) e0 e1 e2 e3 e4
def endW (bs : List Nat) (kd fr rd N : Nat) : Except Int (List (Int × Int × Int) × Nat) → Except Int FN
  | .error e => .error e
  | .ok (l, j) => if bs.length < j + 4 then .error 76 else if nm bs j 4 ≠ sumV (bs.take j) then .error 77 else if j + 4 < bs.length then .error 2 else .ok (kd, fr, rd, N, l)
theorem rdE_rd4 {n : Nat} {bs : List Nat} {kd fr rd N i : Nat} (h : rdF n bs = rd4 n bs kd fr rd N i) : rdE n bs = endW bs kd fr rd N (rdW n bs i) := by
  rw [rdE, h, rd4]
  cases rdW n bs i with
  | error e => rfl
  | ok q => rfl
theorem rdF_head {n : Nat} {bs : List Nat} {kd y : Nat} (hk : 1 ≤ kd ∧ kd ≤ 3) (hy : y < n) (e0 : bs[0]? = some 101) (e1 : bs[1]? = some 115) (e2 : bs[2]? = some kd) (e3 : bs[3]? = some n) (e4 : bs[4]? = some y) : rdF n bs = rd2 n bs kd y := by
  have h5 := (List.getElem?_eq_some_iff.1 e4).1
  rw [rdF, if_neg (by omega), if_neg (by rw [nm2 e0 e1]; simp), if_neg (by omega), if_neg (by rw [nm1 e2]; omega), if_neg (by omega), if_neg (by rw [nm1 e3]; simp), if_neg (by omega), if_neg (by rw [nm1 e4]; omega), nm1 e2, nm1 e4]
theorem load_i {W : World} {p : Addr} {z : Int} (h : W.cell? p = some (.int .i64 z)) : (Instr.loadAt 3 (.pointer (some p))).run Try.prog W = .ok (.int .i64 z) W := by go_simp
theorem load_ntb {W : World} {b : Nat} {o t k : Int} (h : NB W b o t k) : (Instr.loadAt 82 (.pointer (some ⟨b, 0, none⟩))).run Try.prog W = .ok (nt o t k) W := by
  have c0 := h.c0
  have c1 := h.c1
  have c2 := h.c2
  unfold nt
  go_simp
theorem fieldN0 (b : Nat) (W : World) : (Instr.fieldAt 82 (.pointer (some ⟨b, 0, none⟩)) 0).run Try.prog W = .ok (.pointer (some ⟨b, 0, none⟩)) W := by go_simp
theorem tpre_bits {N i : Nat} : N % 2 ^ i + (if N.testBit i = true then 2 ^ i else 0) = N % 2 ^ (i + 1) := by
  rw [Nat.pow_succ, Nat.mod_mul, Nat.testBit_eq_decide_div_mod_eq]
  rcases Nat.mod_two_eq_zero_or_one (N / 2 ^ i) with h | h <;> simp [h]
theorem vlS_bit : ∀ (l : List Nat), Byt l → ∀ i, (vlS l).testBit i = (l.getD (i / 8) 0).testBit (i % 8)
  | [], _, i => by simp [vlS]
  | x :: l, h, i => by
    have hx : x < 2 ^ 8 := h.head
    rw [show vlS (x :: l) = 2 ^ 8 * vlS l + x by rw [vlS]; omega, Nat.testBit_two_pow_mul_add _ hx]
    by_cases hi : i < 8
    · rw [if_pos hi, show i / 8 = 0 by omega, show i % 8 = i by omega]
      rfl
    · rw [if_neg hi, vlS_bit l h.tail, show i / 8 = (i - 8) / 8 + 1 by omega, show (i - 8) % 8 = i % 8 by omega]
      rfl
theorem wth_no {T n i : Nat} (hn : n ≤ 100) (hi : n ≤ i) (h : T.testBit i = true) : wthB T n = false := by
  by_cases q : wthB T n = false
  · exact q
  · have := wth_mod hn (by simpa using q)
    have h2 := Nat.testBit_lt_two_pow (Nat.lt_of_lt_of_le this (Nat.pow_le_pow_right (by decide) hi))
    rw [h2] at h
    cases h
theorem wth_yes {T n : Nat} (hn : n ≤ 100) (h : T < 2 ^ n) : wthB T n = true := by
  unfold wthB
  rw [show topW (n : Int) = n by unfold topW; omega, Nat.mod_eq_of_lt h]
  simp
theorem or_pow {M i : Nat} (h : M < 2 ^ i) : M ||| 2 ^ i = M + 2 ^ i := by
  have := Nat.two_pow_add_eq_or_of_lt h 1
  rw [Nat.mul_one] at this
  rw [Nat.or_comm, ← this, Nat.add_comm]
theorem and1 (x r : Nat) : (x / 2 ^ r &&& 1) = if x.testBit r = true then 1 else 0 := by
  rw [Nat.and_one_is_mod, Nat.testBit_eq_decide_div_mod_eq]
  rcases Nat.mod_two_eq_zero_or_one (x / 2 ^ r) with q | q <;> simp [q]
theorem own_sl {W : World} {base : Nat} {e : TypeId} {size : Nat} {v : Value} {n : Nat} {xs : List Value} (h : W.ownsRow base e size v (n + 1) xs) : ∃ a c, v = .slice a (n + 1) c := by
  rcases own_form h with ⟨_, e2⟩ | ⟨g, c, e1, _⟩
  · omega
  · exact ⟨_, _, e1⟩
theorem last_get {L : List (Int × Int × Int)} {c : Nat} (h : L.length = c + 1) : ∃ x, L[c]? = some x ∧ L.getLast? = some x := by
  refine ⟨L[c]'(by omega), List.getElem?_eq_getElem (by omega), ?_⟩
  rw [List.getLast?_eq_getElem?, show L.length - 1 = c by omega]
  exact List.getElem?_eq_getElem (by omega)
set_option maxHeartbeats 8000000 in
set_option maxRecDepth 100000 in
theorem rr3 (ad : Option Addr) (cap : Nat) (bs : List Nat) (n : Nat) (w : World) (h : RdB w ad bs) (hb : Byt bs) (hl : bs.length ≤ 1024) (hc : bs.length ≤ cap) (hn : 1 ≤ n ∧ n ≤ 100) (y : Nat) (hy : y < n) (e0 : bs[0]? = some 101) (e1 : bs[1]? = some 115) (e2 : bs[2]? = some 3) (e3 : bs[3]? = some n) (e4 : bs[4]? = some y) : Calls Try.prog 48 #[.slice ad bs.length cap, .int .i64 (n : Int)] w (RrO n bs w) := by
  have hmx : Try.prog.follows .mixedOrders = true := by kernel_rfl
  have hS0 := SX.new w
  have hrW := h.carry hS0.be
  obtain ⟨W0, hW0⟩ : ∃ W0, (w.alloc (.cells #[.int .i64 0, .int .i64 0, .int .i64 0, .int .u32 0, .int .u32 0, .int .u32 0, .int .u32 0, .slice none 0 0] 41)).alloc (.cells #[.int .i64 0, .int .i64 0, .int .i64 0, .int .u32 0, .int .u32 0, .int .u32 0, .int .u32 0, .slice none 0 0] 41) = W0 := ⟨_, rfl⟩
  rw [hW0] at hS0 hrW
  have hbW := hS0.be
  have hSA := hS0.a
  obtain ⟨a0, a1, a2, a3, a4, a5, a6, a7⟩ := hS0.a.cells
  obtain ⟨za0, za1, za2, za3, za4, za5, za6, za7⟩ := hS0.a.thaw
  obtain ⟨d0, d1, d2, d3, d4, d5, d6, d7⟩ := hS0.x.cells
  obtain ⟨z0, z1, z2, z3, z4, z5, z6, z7⟩ := hS0.x.thaw
  have h5 := (List.getElem?_eq_some_iff.1 e4).1
  have c2i : ¬ (bs.length : Int) < 2 := by omega
  have c3i : ¬ (bs.length : Int) < 3 := by omega
  have c4i : ¬ (bs.length : Int) < 4 := by omega
  have c5i : ¬ (bs.length : Int) < 5 := by omega
  obtain ⟨g', off', hadd, hgl, hat⟩ := hrW (fun e => by subst e; simp at e0)
  subst hadd
  have b0 := hat 0 _ e0
  have b1 := hat 1 _ e1
  have b2 := hat 2 _ e2
  have b3 := hat 3 _ e3
  have b4 := hat 4 _ e4
  rw [Nat.add_zero] at b0
  have i0 : (0 : Int) < (bs.length : Int) := by omega
  have i1 : (1 : Int) < (bs.length : Int) := by omega
  have i2 : (2 : Int) < (bs.length : Int) := by omega
  have i3 : (3 : Int) < (bs.length : Int) := by omega
  have i4 : (4 : Int) < (bs.length : Int) := by omega
  have f4i : ¬ (n : Int) ≤ (y : Int) := by omega
  have HF0 : Hid (rdF n bs = rd2 n bs 3 y) := rdF_head (by decide) hy e0 e1 e2 e3 e4
  have HW : Hid (rdE n bs = endW bs 3 y 0 0 (rdW n bs 5)) := rdE_rd4 (HF0.out.trans (by rw [rd2, if_pos rfl, rd3, if_neg (by decide)]))
  have hSL := (hS0.set0 3).set1 (y : Int)
  by_cases c6 : bs.length < 5 + 1
  · have HE : Hid (rdE n bs = .error 76) := HW.out.trans (by rw [rdW, if_pos c6]; rfl)
    have c6i : (bs.length : Int) < 6 := by omega
    go_enter Try.func48, Try.ntmps48
    go_wp2
    exact read_end (b := w.heap.size) (N := 0) rfl rfl rfl (by repeat' first | (with_reducible exact hSA) | (with_reducible refine RB.other ?_ (by simp))) (rro_err HE.out (by repeat' first | (with_reducible exact hbW) | (with_reducible refine Below.setCell (p := ⟨_, _, _⟩) ?_ (by simp) _)))
  have c6i : ¬ (bs.length : Int) < 6 := by omega
  obtain ⟨cnt, e5⟩ := get_lt (show 5 < bs.length by omega)
  have b5 := hat 5 _ e5
  have i5 : (5 : Int) < (bs.length : Int) := by omega
  have q5 := byt_get8 hb e5
  by_cases c7 : n < cnt
  · have HE : Hid (rdE n bs = .error 75) := HW.out.trans (by rw [rdW, if_neg c6, nm1 e5, if_pos c7]; rfl)
    have c7i : (n : Int) < (cnt : Int) := by omega
    go_enter Try.func48, Try.ntmps48
    go_wp2
    exact read_end (b := w.heap.size) (N := 0) rfl rfl rfl (by repeat' first | (with_reducible exact hSA) | (with_reducible refine RB.other ?_ (by simp))) (rro_err HE.out (by repeat' first | (with_reducible exact hbW) | (with_reducible refine Below.setCell (p := ⟨_, _, _⟩) ?_ (by simp) _)))
  have c7i : ¬ (n : Int) < (cnt : Int) := by omega
  obtain ⟨R, HR⟩ : ∃ R, Hid (rdK n bs cnt (-1) (5 + 1) = R) := ⟨_, rfl⟩
  have HW : Hid (rdE n bs = endW bs 3 y 0 0 R) := HW.out.trans (by rw [rdW, if_neg c6, nm1 e5, if_neg c7, HR.out])
  go_enter Try.func48, Try.ntmps48
  go_wp2
  go_loopw [7, 11] (fun at' k' wz => ∃ (L : List (Int × Int × Int)) (A : Int) (j : Nat) (a : Option Addr) (cp : Nat), at' = .int .i64 (j : Int) ∧ k' = .int .i64 (L.length : Int) ∧ L.length ≤ cnt ∧ j ≤ 2000 ∧ Hid (j = 5 + 1 + 5 * L.length) ∧ Hid (-1 ≤ A ∧ (L = [] → A = -1) ∧ ∀ x, L.getLast? = some x → A = x.1) ∧ Hid (glu L (rdK n bs (cnt - L.length) A j) = R) ∧ Hid (wz.ownsRow (w.heap.size + 2) 82 3 (.slice a L.length cp) L.length (fl L)) ∧ Hid (SX w 3 (y : Int) 0 0 (.slice a L.length cp) wz)) (fun _ k' _ => cnt - vnatW k')
  case atStart => exact ⟨[], -1, 5 + 1, none, 0, by simp, rfl, Nat.zero_le _, by omega, rfl, ⟨by decide, fun _ => rfl, fun x hx => by simp at hx⟩, (by show glu [] _ = R; rw [glu_nil]; exact HR.out), World.ownsRow_nil _ _ _ _, hSL⟩
  case round =>
    obtain ⟨L, A, j, a, cp, rfl, rfl, hk, hj2, HJ, HA, HK, HO, HS0⟩ := hrel
    have HS := HS0.out
    have HO := HO.out
    clear HS0 HR hSL a0 a1 a2 a3 a4 a5 a6 a7 za0 za1 za2 za3 za4 za5 za6 za7 d0 d1 d2 d3 d4 d5 d6 d7 z0 z1 z2 z3 z4 z5 z6 z7 hSA hbW
    obtain ⟨a0, a1, a2, a3, a4, a5, a6, a7⟩ := HS.a.cells
    obtain ⟨za0, za1, za2, za3, za4, za5, za6, za7⟩ := HS.a.thaw
    obtain ⟨d0, d1, d2, d3, d4, d5, d6, d7⟩ := HS.x.cells
    obtain ⟨z0, z1, z2, z3, z4, z5, z6, z7⟩ := HS.x.thaw
    have hSA := HS.a
    have hbW := HS.be
    have hrW := h.carry hbW
    by_cases hkl : L.length < cnt
    · have hki : (L.length : Int) < (cnt : Int) := by omega
      obtain ⟨m, hm⟩ : ∃ m, cnt - L.length = m + 1 := ⟨cnt - L.length - 1, by omega⟩
      have HK2 := HK.out
      rw [hm] at HK2
      clear HK
      by_cases hs : bs.length < j + 5
      · rw [rdK_short hs] at HK2
        have HE : Hid (rdE n bs = .error 76) := HW.out.trans (by rw [← HK2]; rfl)
        have hsi : (bs.length : Int) < (j : Int) + 5 := by omega
        clear HK2
        go_wp2
        exact read_end (b := w.heap.size) (N := 0) rfl rfl rfl hSA (rro_err HE.out (by repeat' first | (with_reducible exact hbW) | (with_reducible refine Below.setCell (p := ⟨_, _, _⟩) ?_ (by simp) _)))
      have hsi : ¬ (bs.length : Int) < (j : Int) + 5 := by omega
      obtain ⟨O, hO⟩ := get_lt (show j < bs.length by omega)
      obtain ⟨Q, hQ⟩ := get_lt (show j + 1 < bs.length by omega)
      have hO8 := byt_get8 hb hO
      have hQ8 := byt_get8 hb hQ
      have HX : Hid (∀ B, (vl n (O : Nat) (nm bs (j + 2) 3 : Nat) (Q : Nat) && decide (A < ((O : Nat) : Int))) = B → R = if B = false then .error 75 else glu (L ++ [((O : Int), ((nm bs (j + 2) 3 : Nat) : Int), (Q : Int))]) (rdK n bs m (O : Nat) (j + 5))) := by
        rw [← getD_of hO, ← getD_of hQ]
        intro B hB
        cases B with
        | false => rw [rdK_bad hs hB] at HK2; rw [if_pos rfl]; exact HK2.symm
        | true => rw [rdK_next hs (by rw [hB]; decide), glu_glu] at HK2; rw [if_neg (by decide)]; exact HK2.symm
      have hnu : ∀ (a : Addr) (c : Nat) (W : World), RdB W (some a) ((bs.drop (j + 2)).take 3) → Calls Try.prog 65 #[.slice (some a) 3 c] W fun e w' => e = .returned (.int .i64 (nm bs (j + 2) 3 : Nat)) ∧ w' = W := fun a c W hr2 => by
        have := value_any (some a) c ((bs.drop (j + 2)).take 3) W hr2 ((hb.drop _).take _) (by rw [sub_len (by omega)]; decide)
        rw [sub_len (by omega)] at this
        exact this
      have hT24 : nm bs (j + 2) 3 < 2 ^ 24 := by
        have := valB_lt ((bs.drop (j + 2)).take 3) ((hb.drop _).take _)
        rw [sub_len (by omega)] at this
        exact this
      obtain ⟨b', o', e', hbV, hat⟩ := hrW (fun e => by subst e; simp at hO)
      cases e'
      have x0 := hat j O hO
      have x1 := hat (j + 1) Q hQ
      have hat3 := hat.sub (j + 2) 3
      have HM : Hid (cnt - L.length = m + 1) := hm
      clear HK2 hm
      generalize nm bs (j + 2) 3 = T at *
      have hva := rValid_any (n : Int) (O : Int) (T : Int) (Q : Int)
      go_wp2
      refine wp_region_any hmx ?_
      refine wpAny_tabG (G := (Nat)) (fun g i__ => ([(.slice (some ⟨g', off', none⟩) bs.length cap), (.int .i64 (j : Int)), (.pointer (some ⟨g', off' + j, none⟩)), (.int .u8 (O : Int)), (.int .i64 (O : Int)), (.slice (some ⟨g', off', none⟩) bs.length cap), (.int .i64 (j : Int)), (.int .i64 ((j + 1 : Nat) : Int)), (.pointer (some ⟨g', off' + (j + 1), none⟩)), (.int .u8 (Q : Int)), (.int .i64 (Q : Int)), (.slice (some ⟨g', off', none⟩) bs.length cap), (.int .i64 (j : Int)), (.int .i64 ((j + 2 : Nat) : Int)), (.int .i64 (j : Int)), (.int .i64 ((j + 5 : Nat) : Int)), (.slice (some ⟨g', off' + (j + 2), none⟩) 3 (cap - (j + 2))), (.int .i64 (T : Int)), (nt O T Q), (.pointer (some ⟨g, 0, none⟩)), undef] : List Value).getD i__ undef) (fun g d W => JN wr O T Q g (d 19) (d 20) W) (by kernel_rfl) (0) ⟨(Below.refl _ _).drew, fun e => by cases e⟩ ?step1 ?fin1
      case step1 =>
        intro i o ho
        have hi : i < 21 := getElem?_lt ho
        match i, hi, ho with
        | 0, _, ho =>
          cases ho
          refine stepG_of (fun g d hdep => ?_)
          exact step_move rfl trivial _ rfl (by kernel_rfl)
        | 1, _, ho =>
          cases ho
          refine stepG_of (fun g d hdep => ?_)
          exact step_move rfl trivial _ rfl (by kernel_rfl)
        | 2, _, ho =>
          cases ho
          refine stepG_of (fun g d hdep => ?_)
          exact step_indexAddr rfl trivial _ _ _ _ _ rfl rfl rfl (fun w hw => idx_b g' off' bs.length cap j (by omega) w)
        | 3, _, ho =>
          cases ho
          refine stepG_of (fun g d hdep => ?_)
          exact step_load rfl trivial _ _ _ rfl rfl (fun w hw => load_b ((hw.below.cell (p := ⟨g', off' + j, none⟩) hbV).trans x0))
        | 4, _, ho =>
          cases ho
          refine stepG_of (fun g d hdep => ?_)
          exact step_convert rfl trivial _ _ _ _ rfl rfl (fun w hw => conv_int .i64 _ (by rw [Try.underlying5]; rfl) Try.underlying3 (by rw [IntKind.wrap_i64]; omega) w)
        | 5, _, ho =>
          cases ho
          refine stepG_of (fun g d hdep => ?_)
          exact step_move rfl trivial _ rfl (by kernel_rfl)
        | 6, _, ho =>
          cases ho
          refine stepG_of (fun g d hdep => ?_)
          exact step_move rfl trivial _ rfl (by kernel_rfl)
        | 7, _, ho =>
          cases ho
          refine stepG_of (fun g d hdep => ?_)
          exact step_binOp rfl trivial _ _ _ _ _ _ _ rfl rfl rfl (fun w hw => bin_add64 _ _ _ (by rw [IntKind.wrap_i64]; omega))
        | 8, _, ho =>
          cases ho
          refine stepG_of (fun g d hdep => ?_)
          exact step_indexAddr rfl trivial _ _ _ _ _ rfl rfl rfl (fun w hw => idx_b g' off' bs.length cap (j + 1) (by omega) w)
        | 9, _, ho =>
          cases ho
          refine stepG_of (fun g d hdep => ?_)
          exact step_load rfl trivial _ _ _ rfl rfl (fun w hw => load_b ((hw.below.cell (p := ⟨g', off' + (j + 1), none⟩) hbV).trans x1))
        | 10, _, ho =>
          cases ho
          refine stepG_of (fun g d hdep => ?_)
          exact step_convert rfl trivial _ _ _ _ rfl rfl (fun w hw => conv_int .i64 _ (by rw [Try.underlying5]; rfl) Try.underlying3 (by rw [IntKind.wrap_i64]; omega) w)
        | 11, _, ho =>
          cases ho
          refine stepG_of (fun g d hdep => ?_)
          exact step_move rfl trivial _ rfl (by kernel_rfl)
        | 12, _, ho =>
          cases ho
          refine stepG_of (fun g d hdep => ?_)
          exact step_move rfl trivial _ rfl (by kernel_rfl)
        | 13, _, ho =>
          cases ho
          refine stepG_of (fun g d hdep => ?_)
          exact step_binOp rfl trivial _ _ _ _ _ _ _ rfl rfl rfl (fun w hw => bin_add64 _ _ _ (by rw [IntKind.wrap_i64]; omega))
        | 14, _, ho =>
          cases ho
          refine stepG_of (fun g d hdep => ?_)
          exact step_move rfl trivial _ rfl (by kernel_rfl)
        | 15, _, ho =>
          cases ho
          refine stepG_of (fun g d hdep => ?_)
          exact step_binOp rfl trivial _ _ _ _ _ _ _ rfl rfl rfl (fun w hw => bin_add64 _ _ _ (by rw [IntKind.wrap_i64]; omega))
        | 16, _, ho =>
          cases ho
          refine stepG_of (fun g d hdep => ?_)
          exact step_slice rfl trivial _ _ _ _ _ (some (.int .i64 ((j + 2 : Nat) : Int))) (some (.int .i64 ((j + 5 : Nat) : Int))) rfl rfl rfl rfl (fun w hw => (slice_at g' off' bs.length cap (j + 2) (j + 5) (by omega) (by omega) w).trans (by rw [show j + 5 - (j + 2) = 3 by omega]; rfl))
        | 17, _, ho =>
          cases ho
          refine stepG_of (fun g d hdep => ?_)
          exact step_call rfl trivial 65 _ _ [(.slice (some ⟨g', off' + (j + 2), none⟩) 3 (cap - (j + 2)))] rfl (by kernel_rfl) (enters_of Try.func65 (by kernel_rfl) rfl) (fun w hw => (hnu _ _ w (fun _ => ⟨g', off' + (j + 2), rfl, Nat.lt_of_lt_of_le hbV hw.below.size, hat3.carry (hw.below.block g' hbV)⟩)).mono (by rintro e w' ⟨rfl, rfl⟩; exact ⟨rfl, hw⟩))
        | 18, _, ho =>
          cases ho
          exact stepG_of (fun g d hdep => step_build3 rfl trivial _ _ _ _ _ _ _ (.int .i64 (O : Int)) (.int .i64 (Q : Int)) (.int .i64 (T : Int)) rfl (by kernel_rfl) (by kernel_rfl) (by kernel_rfl) (fun w hw => build_nt O T Q w))
        | 19, _, ho =>
          cases ho
          exact stepG_newN rfl rfl rfl (fun g d W' hJ hun hcl => ⟨W'.heap.size, (fun j hj => match j, hj with | 19, hj => (by rw [hj] at hun; cases hun)  | 0, _ => rfl | 1, _ => rfl | 2, _ => rfl | 3, _ => rfl | 4, _ => rfl | 5, _ => rfl | 6, _ => rfl | 7, _ => rfl | 8, _ => rfl | 9, _ => rfl | 10, _ => rfl | 11, _ => rfl | 12, _ => rfl | 13, _ => rfl | 14, _ => rfl | 15, _ => rfl | 16, _ => rfl | 17, _ => rfl | 18, _ => rfl | 20, _ => rfl | _ + 21, _ => rfl), rfl, hJ.new (by cases h : d 20 with | false => rfl | true => exact absurd (hcl 20 _ rfl h 19 (by kernel_rfl)) (by rw [hun]; simp))⟩)
        | 20, _, ho =>
          cases ho
          refine stepG_of (fun g d hdep => ?_)
          exact step_store rfl trivial rfl _ _ _ _ _ rfl rfl rfl (fun w' hw => by have h19 := hdep 19 (by kernel_rfl); rw [h19] at hw; exact ⟨_, hw.store.1, by show JN wr O T Q g (d 19) true _; rw [h19]; exact hw.store.2⟩)
      intro g d W hall hW
      first | refine hK _ _ ?_ | refine (‹∀ (a : Act) (w : World), Code.wp Try.prog _ _ a w → _›) _ _ ?_ | skip
      simp only [finL, List.getD_cons_zero, List.getD_cons_succ, Nat.zero_add, Nat.reduceAdd, List.setIfInBounds_toArray, List.set_cons_zero, List.set_cons_succ]
      rw [hall 19 (by decide), hall 20 (by decide)] at hW
      have hnW : NB W g O T Q := by simpa using (hW.box rfl).2
      have hgV := (hW.box rfl).1
      have hSW := HS.below hW.below
      have hOW := row_below HO hW.below
      have hol := own_lt HO
      obtain ⟨V, hVW⟩ : ∃ V, V = W := ⟨_, rfl⟩
      subst hVW
      clear hW hall HS HO hrW hat x0 x1 hat3 hnu a0 a1 a2 a3 a4 a5 a6 a7 za0 za1 za2 za3 za4 za5 za6 za7 d0 d1 d2 d3 d4 d5 d6 d7 z0 z1 z2 z3 z4 z5 z6 z7 hSA hbW hbV hO hQ
      have hgo : ∀ B, (vl n (O : Nat) (T : Nat) (Q : Nat) && decide (A < ((O : Nat) : Int))) = B → B = false → rdE n bs = .error 75 := fun B h1 h2 => HW.out.trans (by rw [HX.out B h1, if_pos h2]; rfl)
      cases hB : vl (n : Int) (O : Int) (T : Int) (Q : Int) with
      | false =>
        rw [hB] at hva
        have HE : Hid (rdE n bs = .error 75) := hgo false (by rw [hB]; rfl) rfl
        clear HX hB hgo
        go_wp2
        refine wp_region_any hmx ?_
        refine wpAny_pure (fun i__ => ([(.int .i64 (n : Int)), (nt O T Q), (.bool false), (.bool true), (.bool true), undef, undef, undef, undef, undef, undef, undef, undef, undef, undef, undef, undef, undef, undef, (.bool true)] : List Value).getD i__ undef) (fun W' => Below V.heap.size V W') (by kernel_rfl) (Below.refl _ _).drew ?_ ?_
        · refine (stepsFrom_cons ?_ (stepsFrom_cons ?_ (stepsFrom_cons ?_ (stepsFrom_cons ?_ (stepsFrom_cons ?_ (stepsFrom_cons ?_ (stepsFrom_cons ?_ (stepsFrom_cons ?_ (stepsFrom_cons ?_ (stepsFrom_cons ?_ (stepsFrom_cons ?_ (stepsFrom_cons ?_ (stepsFrom_cons ?_ (stepsFrom_cons ?_ (stepsFrom_cons ?_ (stepsFrom_cons ?_ (stepsFrom_cons ?_ (stepsFrom_cons ?_ (stepsFrom_cons ?_ (stepsFrom_cons ?_ trivial))))))))))))))))))))
          · exact step_move rfl trivial _ rfl (by kernel_rfl)
          · exact step_load rfl trivial _ _ _ rfl rfl (fun w hw => load_ntb (hnW.carry hw))
          · exact step_call rfl trivial 53 _ _ [(.int .i64 (n : Int)), (nt O T Q)] rfl (by kernel_rfl) (enters_of Try.func53 (by kernel_rfl) rfl) (fun w hw => (hva w).mono (by rintro e w' ⟨rfl, hb'⟩; exact ⟨rfl, bel2 hw hb'⟩))
          · exact step_unOp rfl trivial _ _ _ _ rfl rfl (fun w hw => un_notB false w)
          · exact step_move rfl trivial _ rfl (by kernel_rfl)
          · exact step_skip rfl 4 false 192 (.bool true) rfl rfl (by kernel_rfl) (by intro h; cases h) rfl
          · exact step_skip rfl 4 false 192 (.bool true) rfl rfl (by kernel_rfl) (by intro h; cases h) rfl
          · exact step_skip rfl 4 false 192 (.bool true) rfl rfl (by kernel_rfl) (by intro h; cases h) rfl
          · exact step_skip rfl 7 true 195 undef rfl rfl (by kernel_rfl) (by intro h; cases h) rfl
          · exact step_skip rfl 7 true 195 undef rfl rfl (by kernel_rfl) (by intro h; cases h) rfl
          · exact step_skip rfl 7 true 195 undef rfl rfl (by kernel_rfl) (by intro h; cases h) rfl
          · exact step_skip rfl 7 true 195 undef rfl rfl (by kernel_rfl) (by intro h; cases h) rfl
          · exact step_skip rfl 7 true 195 undef rfl rfl (by kernel_rfl) (by intro h; cases h) rfl
          · exact step_skip rfl 7 true 195 undef rfl rfl (by kernel_rfl) (by intro h; cases h) rfl
          · exact step_skip rfl 7 true 195 undef rfl rfl (by kernel_rfl) (by intro h; cases h) rfl
          · exact step_skip rfl 7 true 195 undef rfl rfl (by kernel_rfl) (by intro h; cases h) rfl
          · exact step_skip rfl 7 true 195 undef rfl rfl (by kernel_rfl) (by intro h; cases h) rfl
          · exact step_skip rfl 7 true 195 undef rfl rfl (by kernel_rfl) (by intro h; cases h) rfl
          · exact step_skip rfl 4 false 192 (.bool true) rfl rfl (by kernel_rfl) (by intro h; cases h) rfl
          · exact step_pick rfl trivial _ _ _ true rfl (by kernel_rfl) (by kernel_rfl)
        intro W hW
        first | refine hK _ _ ?_ | refine (‹∀ (a : Act) (w : World), Code.wp Try.prog _ _ a w → _›) _ _ ?_
        simp only [finL, List.getD_cons_zero, List.getD_cons_succ, Nat.zero_add, Nat.reduceAdd, List.setIfInBounds_toArray, List.set_cons_zero, List.set_cons_succ]
        have HS := hSW.below hW
        obtain ⟨a0, a1, a2, a3, a4, a5, a6, a7⟩ := HS.a.cells
        obtain ⟨za0, za1, za2, za3, za4, za5, za6, za7⟩ := HS.a.thaw
        obtain ⟨d0, d1, d2, d3, d4, d5, d6, d7⟩ := HS.x.cells
        obtain ⟨z0, z1, z2, z3, z4, z5, z6, z7⟩ := HS.x.thaw
        have hSA := HS.a
        have hbW := HS.be
        go_wp2
        exact read_end (b := w.heap.size) (N := 0) rfl rfl rfl hSA (rro_err HE.out (by repeat' first | (with_reducible exact hbW) | (with_reducible refine Below.setCell (p := ⟨_, _, _⟩) ?_ (by simp) _)))
      | true =>
        rw [hB] at hva
        have hcon : A < (O : Int) → Hid (R = glu (L ++ [((O : Int), ((T : Nat) : Int), (Q : Int))]) (rdK n bs m (O : Nat) (j + 5))) := fun hA => by have := HX.out true (by rw [hB, decide_eq_true hA]; rfl); rwa [if_neg (by decide)] at this
        by_cases hL0 : L.length = 0
        · have HF := hcon (by have := HA.out.2.1 (List.length_eq_zero_iff.1 hL0); omega)
          have HL0 : Hid (L.length = 0) := hL0
          clear HX hB hgo hcon hL0
          go_wp2
          refine wp_region_any hmx ?_
          refine wpAny_pure (fun i__ => ([(.int .i64 (n : Int)), (nt O T Q), (.bool true), (.bool false), (.bool false), (.int .i64 (L.length : Int)), (.bool false), (.bool false), undef, undef, undef, undef, undef, undef, undef, undef, undef, undef, (.bool false), (.bool false)] : List Value).getD i__ undef) (fun W' => Below V.heap.size V W') (by kernel_rfl) (Below.refl _ _).drew ?_ ?_
          · refine (stepsFrom_cons ?_ (stepsFrom_cons ?_ (stepsFrom_cons ?_ (stepsFrom_cons ?_ (stepsFrom_cons ?_ (stepsFrom_cons ?_ (stepsFrom_cons ?_ (stepsFrom_cons ?_ (stepsFrom_cons ?_ (stepsFrom_cons ?_ (stepsFrom_cons ?_ (stepsFrom_cons ?_ (stepsFrom_cons ?_ (stepsFrom_cons ?_ (stepsFrom_cons ?_ (stepsFrom_cons ?_ (stepsFrom_cons ?_ (stepsFrom_cons ?_ (stepsFrom_cons ?_ (stepsFrom_cons ?_ trivial))))))))))))))))))))
            · exact step_move rfl trivial _ rfl (by kernel_rfl)
            · exact step_load rfl trivial _ _ _ rfl rfl (fun w hw => load_ntb (hnW.carry hw))
            · exact step_call rfl trivial 53 _ _ [(.int .i64 (n : Int)), (nt O T Q)] rfl (by kernel_rfl) (enters_of Try.func53 (by kernel_rfl) rfl) (fun w hw => (hva w).mono (by rintro e w' ⟨rfl, hb'⟩; exact ⟨rfl, bel2 hw hb'⟩))
            · exact step_unOp rfl trivial _ _ _ _ rfl rfl (fun w hw => un_notB true w)
            · exact step_move rfl trivial _ rfl (by kernel_rfl)
            · exact step_move rfl (by exact ⟨_, rfl, by kernel_rfl⟩) _ rfl (by kernel_rfl)
            · exact step_binOp rfl (by exact ⟨_, rfl, by kernel_rfl⟩) _ _ _ _ _ _ _ rfl rfl rfl (fun w hw => (bin_gtr .i64 _ _).trans (by rw [decide_eq_false (by have := HL0.out; omega)]; rfl))
            · exact step_move rfl (by exact ⟨_, rfl, by kernel_rfl⟩) _ rfl (by kernel_rfl)
            · exact step_skip rfl 7 true 195 (.bool false) rfl rfl (by kernel_rfl) (by intro h; cases h) rfl
            · exact step_skip rfl 7 true 195 (.bool false) rfl rfl (by kernel_rfl) (by intro h; cases h) rfl
            · exact step_skip rfl 7 true 195 (.bool false) rfl rfl (by kernel_rfl) (by intro h; cases h) rfl
            · exact step_skip rfl 7 true 195 (.bool false) rfl rfl (by kernel_rfl) (by intro h; cases h) rfl
            · exact step_skip rfl 7 true 195 (.bool false) rfl rfl (by kernel_rfl) (by intro h; cases h) rfl
            · exact step_skip rfl 7 true 195 (.bool false) rfl rfl (by kernel_rfl) (by intro h; cases h) rfl
            · exact step_skip rfl 7 true 195 (.bool false) rfl rfl (by kernel_rfl) (by intro h; cases h) rfl
            · exact step_skip rfl 7 true 195 (.bool false) rfl rfl (by kernel_rfl) (by intro h; cases h) rfl
            · exact step_skip rfl 7 true 195 (.bool false) rfl rfl (by kernel_rfl) (by intro h; cases h) rfl
            · exact step_skip rfl 7 true 195 (.bool false) rfl rfl (by kernel_rfl) (by intro h; cases h) rfl
            · exact step_pick rfl (by exact ⟨_, rfl, by kernel_rfl⟩) _ _ _ false rfl (by kernel_rfl) (by kernel_rfl)
            · exact step_pick rfl trivial _ _ _ false rfl (by kernel_rfl) (by kernel_rfl)
          intro W hW
          first | refine hK _ _ ?_ | refine (‹∀ (a : Act) (w : World), Code.wp Try.prog _ _ a w → _›) _ _ ?_
          simp only [finL, List.getD_cons_zero, List.getD_cons_succ, Nat.zero_add, Nat.reduceAdd, List.setIfInBounds_toArray, List.set_cons_zero, List.set_cons_succ]
          have HS := hSW.below hW
          have HO := row_below hOW hW
          have hn2 := hnW.carry hW
          have n0 := hn2.c0
          have n1 := hn2.c1
          have n2 := hn2.c2
          obtain ⟨a0, a1, a2, a3, a4, a5, a6, a7⟩ := HS.a.cells
          obtain ⟨za0, za1, za2, za3, za4, za5, za6, za7⟩ := HS.a.thaw
          obtain ⟨d0, d1, d2, d3, d4, d5, d6, d7⟩ := HS.x.cells
          obtain ⟨z0, z1, z2, z3, z4, z5, z6, z7⟩ := HS.x.thaw
          have hSA := HS.a
          have hbW := HS.be
          have hsz2 := HS.sz
          obtain ⟨ic, hic, hz0, hz1, hz2⟩ := info_partsN
          clear hSW hOW hnW hva
          go_wp2_with (at_builtin; refine wpList_append_own_at _ rfl _ _ 39 rfl (w.heap.size + 2) 82 ic _ 3 24 Try.underlying39 hic hz0 hz1 hz2 rfl (by decide) _ L.length (fl L) rfl (World.ownsRow.alloc HO _) ⟨W.heap.size, 0, none⟩ 1 1 [.int .i64 (O : Int), .int .i64 (T : Int), .int .i64 (Q : Int)] rfl rfl (rowN _ #[_, _, _] _) (by simp [Value.oneCell']) (by unfold maxLen; omega) (by omega) (by simp; omega) ?_; intro v' u2 hown' hgrow _ _; have hbu : Below (w.heap.size + 2) W u2 := ((Below.refl _ W).alloc hsz2 _).grown hgrow (by simp; omega) (fun q e => own_block HO q e); have hSu := HS.lower hbu; obtain ⟨p0, p1, p2, p3, p4, p5, p6, p7⟩ := hSu.x.cells; obtain ⟨t0, t1, t2, t3, t4, t5, t6, t7⟩ := hSu.x.thaw; obtain ⟨a3x, c3x, hv3⟩ : ∃ a3 c3, v' = .slice a3 (L.length + 1) c3 := own_sl hown'; subst hv3)
          go_roundw
          case rel =>
            have hlen : (L ++ [((O : Int), ((T : Nat) : Int), (Q : Int))]).length = L.length + 1 := by simp
            refine ⟨L ++ [((O : Int), ((T : Nat) : Int), (Q : Int))], (O : Int), j + 5, a3x, c3x, by simp, by simp, by rw [hlen]; omega, by have := HJ.out; omega, ?_, ?_, ?_, ?_, ?_⟩
            · show j + 5 = _
              have := HJ.out
              rw [hlen]
              omega
            · refine ⟨by omega, fun e => by simp at e, fun x hx => ?_⟩
              simp at hx
              rw [← hx]
            · show glu _ _ = R
              rw [HF.out, hlen, show cnt - (L.length + 1) = m by have := HM.out; omega]
            · show World.ownsRow _ _ _ _ _ _ _
              rw [hlen, fl_append]
              exact ownsRow_setCell_below hown' (by simp) _
            · show SX _ _ _ _ _ _ _
              rw [hlen]
              exact hSu.set7 _
          case measure => simp [vnatW]; omega
        · obtain ⟨c, hc1⟩ : ∃ c, L.length = c + 1 := ⟨L.length - 1, by omega⟩
          obtain ⟨⟨xo, xt, xq⟩, hx1, hx2⟩ := last_get hc1
          have hAx : A = xo := HA.out.2.2 _ hx2
          have HC1 : Hid (L.length = c + 1) := hc1
          rcases own_form hOW with ⟨_, e2⟩ | ⟨ga, cq, e1, hga, _, _⟩
          · omega
          cases e1
          have hntV := nts_own hOW rfl
          clear hc1 hL0
          have hgaV := hol ga rfl
          have hgaW : ga < V.heap.size := own_lt hOW ga rfl
          by_cases hle : (O : Int) ≤ xo
          · have HE : Hid (rdE n bs = .error 75) := hgo false (by rw [hB, decide_eq_false (by omega)]; rfl) rfl
            clear HX hB hgo hcon
            go_wp2
            refine wp_region_any hmx ?_
            refine wpAny_pure (fun i__ => ([(.int .i64 (n : Int)), (nt O T Q), (.bool true), (.bool false), (.bool false), (.int .i64 (L.length : Int)), (.bool true), (.bool true), (.pointer (some ⟨g, 0, none⟩)), (.int .i64 (O : Int)), (.pointer (some ⟨w.heap.size + 1, 7, none⟩)), (.slice (some ⟨ga, 0, none⟩) L.length cp), (.int .i64 (L.length : Int)), (.int .i64 (c : Int)), (.pointer (some ⟨ga, 0 + c * 3, none⟩)), (.pointer (some ⟨ga, 0 + c * 3, none⟩)), (.int .i64 xo), (.bool true), (.bool true), (.bool true)] : List Value).getD i__ undef) (fun W' => Below V.heap.size V W') (by kernel_rfl) (Below.refl _ _).drew ?_ ?_
            · refine (stepsFrom_cons ?_ (stepsFrom_cons ?_ (stepsFrom_cons ?_ (stepsFrom_cons ?_ (stepsFrom_cons ?_ (stepsFrom_cons ?_ (stepsFrom_cons ?_ (stepsFrom_cons ?_ (stepsFrom_cons ?_ (stepsFrom_cons ?_ (stepsFrom_cons ?_ (stepsFrom_cons ?_ (stepsFrom_cons ?_ (stepsFrom_cons ?_ (stepsFrom_cons ?_ (stepsFrom_cons ?_ (stepsFrom_cons ?_ (stepsFrom_cons ?_ (stepsFrom_cons ?_ (stepsFrom_cons ?_ trivial))))))))))))))))))))
              · exact step_move rfl trivial _ rfl (by kernel_rfl)
              · exact step_load rfl trivial _ _ _ rfl rfl (fun w hw => load_ntb (hnW.carry hw))
              · exact step_call rfl trivial 53 _ _ [(.int .i64 (n : Int)), (nt O T Q)] rfl (by kernel_rfl) (enters_of Try.func53 (by kernel_rfl) rfl) (fun w hw => (hva w).mono (by rintro e w' ⟨rfl, hb'⟩; exact ⟨rfl, bel2 hw hb'⟩))
              · exact step_unOp rfl trivial _ _ _ _ rfl rfl (fun w hw => un_notB true w)
              · exact step_move rfl trivial _ rfl (by kernel_rfl)
              · exact step_move rfl (by exact ⟨_, rfl, by kernel_rfl⟩) _ rfl (by kernel_rfl)
              · exact step_binOp rfl (by exact ⟨_, rfl, by kernel_rfl⟩) _ _ _ _ _ _ _ rfl rfl rfl (fun w hw => (bin_gtr .i64 _ _).trans (by rw [decide_eq_true (by have := HC1.out; omega)]; rfl))
              · exact step_move rfl (by exact ⟨_, rfl, by kernel_rfl⟩) _ rfl (by kernel_rfl)
              · exact step_fieldAddr rfl (by exact ⟨_, rfl, by kernel_rfl⟩) _ _ _ _ rfl rfl (fun w hw => fieldN0 g w)
              · exact step_load rfl (by exact ⟨_, rfl, by kernel_rfl⟩) _ _ _ rfl rfl (fun w hw => load_i (hnW.carry hw).c0)
              · exact step_fieldAddr rfl (by exact ⟨_, rfl, by kernel_rfl⟩) _ _ _ _ rfl rfl (fun w hw => field_rb _ w)
              · exact step_load rfl (by exact ⟨_, rfl, by kernel_rfl⟩) _ _ _ rfl rfl (fun w hw => load_rb (hSW.below hw).x)
              · exact step_move rfl (by exact ⟨_, rfl, by kernel_rfl⟩) _ rfl (by kernel_rfl)
              · exact step_binOp rfl (by exact ⟨_, rfl, by kernel_rfl⟩) _ _ _ _ _ _ _ rfl rfl rfl (fun w hw => bin_sub64 _ _ _ (by have := HC1.out; rw [IntKind.wrap_i64]; omega))
              · exact step_indexAddr rfl (by exact ⟨_, rfl, by kernel_rfl⟩) _ _ _ _ _ rfl rfl rfl (fun w hw => idx_n ga 0 L.length cp c (by have := HC1.out; omega) w)
              · exact step_fieldAddr rfl (by exact ⟨_, rfl, by kernel_rfl⟩) _ _ _ _ rfl rfl (fun w hw => field_at w _ _)
              · exact step_load rfl (by exact ⟨_, rfl, by kernel_rfl⟩) _ _ _ rfl rfl (fun w hw => load_of (hntV.carry hgaW hw) hx1)
              · exact step_binOp rfl (by exact ⟨_, rfl, by kernel_rfl⟩) _ _ _ _ _ _ _ rfl rfl rfl (fun w hw => (bin_leq .i64 _ _).trans (by rw [decide_eq_true (by omega)]; rfl))
              · exact step_pick rfl (by exact ⟨_, rfl, by kernel_rfl⟩) _ _ _ true rfl (by kernel_rfl) (by kernel_rfl)
              · exact step_pick rfl trivial _ _ _ false rfl (by kernel_rfl) (by kernel_rfl)
            intro W hW
            first | refine hK _ _ ?_ | refine (‹∀ (a : Act) (w : World), Code.wp Try.prog _ _ a w → _›) _ _ ?_
            simp only [finL, List.getD_cons_zero, List.getD_cons_succ, Nat.zero_add, Nat.reduceAdd, List.setIfInBounds_toArray, List.set_cons_zero, List.set_cons_succ]
            have HS := hSW.below hW
            obtain ⟨a0, a1, a2, a3, a4, a5, a6, a7⟩ := HS.a.cells
            obtain ⟨za0, za1, za2, za3, za4, za5, za6, za7⟩ := HS.a.thaw
            obtain ⟨d0, d1, d2, d3, d4, d5, d6, d7⟩ := HS.x.cells
            obtain ⟨z0, z1, z2, z3, z4, z5, z6, z7⟩ := HS.x.thaw
            have hSA := HS.a
            have hbW := HS.be
            go_wp2
            exact read_end (b := w.heap.size) (N := 0) rfl rfl rfl hSA (rro_err HE.out (by repeat' first | (with_reducible exact hbW) | (with_reducible refine Below.setCell (p := ⟨_, _, _⟩) ?_ (by simp) _)))
          · have HF := hcon (by omega)
            clear HX hB hgo hcon
            go_wp2
            refine wp_region_any hmx ?_
            refine wpAny_pure (fun i__ => ([(.int .i64 (n : Int)), (nt O T Q), (.bool true), (.bool false), (.bool false), (.int .i64 (L.length : Int)), (.bool true), (.bool true), (.pointer (some ⟨g, 0, none⟩)), (.int .i64 (O : Int)), (.pointer (some ⟨w.heap.size + 1, 7, none⟩)), (.slice (some ⟨ga, 0, none⟩) L.length cp), (.int .i64 (L.length : Int)), (.int .i64 (c : Int)), (.pointer (some ⟨ga, 0 + c * 3, none⟩)), (.pointer (some ⟨ga, 0 + c * 3, none⟩)), (.int .i64 xo), (.bool false), (.bool false), (.bool false)] : List Value).getD i__ undef) (fun W' => Below V.heap.size V W') (by kernel_rfl) (Below.refl _ _).drew ?_ ?_
            · refine (stepsFrom_cons ?_ (stepsFrom_cons ?_ (stepsFrom_cons ?_ (stepsFrom_cons ?_ (stepsFrom_cons ?_ (stepsFrom_cons ?_ (stepsFrom_cons ?_ (stepsFrom_cons ?_ (stepsFrom_cons ?_ (stepsFrom_cons ?_ (stepsFrom_cons ?_ (stepsFrom_cons ?_ (stepsFrom_cons ?_ (stepsFrom_cons ?_ (stepsFrom_cons ?_ (stepsFrom_cons ?_ (stepsFrom_cons ?_ (stepsFrom_cons ?_ (stepsFrom_cons ?_ (stepsFrom_cons ?_ trivial))))))))))))))))))))
              · exact step_move rfl trivial _ rfl (by kernel_rfl)
              · exact step_load rfl trivial _ _ _ rfl rfl (fun w hw => load_ntb (hnW.carry hw))
              · exact step_call rfl trivial 53 _ _ [(.int .i64 (n : Int)), (nt O T Q)] rfl (by kernel_rfl) (enters_of Try.func53 (by kernel_rfl) rfl) (fun w hw => (hva w).mono (by rintro e w' ⟨rfl, hb'⟩; exact ⟨rfl, bel2 hw hb'⟩))
              · exact step_unOp rfl trivial _ _ _ _ rfl rfl (fun w hw => un_notB true w)
              · exact step_move rfl trivial _ rfl (by kernel_rfl)
              · exact step_move rfl (by exact ⟨_, rfl, by kernel_rfl⟩) _ rfl (by kernel_rfl)
              · exact step_binOp rfl (by exact ⟨_, rfl, by kernel_rfl⟩) _ _ _ _ _ _ _ rfl rfl rfl (fun w hw => (bin_gtr .i64 _ _).trans (by rw [decide_eq_true (by have := HC1.out; omega)]; rfl))
              · exact step_move rfl (by exact ⟨_, rfl, by kernel_rfl⟩) _ rfl (by kernel_rfl)
              · exact step_fieldAddr rfl (by exact ⟨_, rfl, by kernel_rfl⟩) _ _ _ _ rfl rfl (fun w hw => fieldN0 g w)
              · exact step_load rfl (by exact ⟨_, rfl, by kernel_rfl⟩) _ _ _ rfl rfl (fun w hw => load_i (hnW.carry hw).c0)
              · exact step_fieldAddr rfl (by exact ⟨_, rfl, by kernel_rfl⟩) _ _ _ _ rfl rfl (fun w hw => field_rb _ w)
              · exact step_load rfl (by exact ⟨_, rfl, by kernel_rfl⟩) _ _ _ rfl rfl (fun w hw => load_rb (hSW.below hw).x)
              · exact step_move rfl (by exact ⟨_, rfl, by kernel_rfl⟩) _ rfl (by kernel_rfl)
              · exact step_binOp rfl (by exact ⟨_, rfl, by kernel_rfl⟩) _ _ _ _ _ _ _ rfl rfl rfl (fun w hw => bin_sub64 _ _ _ (by have := HC1.out; rw [IntKind.wrap_i64]; omega))
              · exact step_indexAddr rfl (by exact ⟨_, rfl, by kernel_rfl⟩) _ _ _ _ _ rfl rfl rfl (fun w hw => idx_n ga 0 L.length cp c (by have := HC1.out; omega) w)
              · exact step_fieldAddr rfl (by exact ⟨_, rfl, by kernel_rfl⟩) _ _ _ _ rfl rfl (fun w hw => field_at w _ _)
              · exact step_load rfl (by exact ⟨_, rfl, by kernel_rfl⟩) _ _ _ rfl rfl (fun w hw => load_of (hntV.carry hgaW hw) hx1)
              · exact step_binOp rfl (by exact ⟨_, rfl, by kernel_rfl⟩) _ _ _ _ _ _ _ rfl rfl rfl (fun w hw => (bin_leq .i64 _ _).trans (by rw [decide_eq_false (by omega)]; rfl))
              · exact step_pick rfl (by exact ⟨_, rfl, by kernel_rfl⟩) _ _ _ true rfl (by kernel_rfl) (by kernel_rfl)
              · exact step_pick rfl trivial _ _ _ false rfl (by kernel_rfl) (by kernel_rfl)
            intro W hW
            first | refine hK _ _ ?_ | refine (‹∀ (a : Act) (w : World), Code.wp Try.prog _ _ a w → _›) _ _ ?_
            simp only [finL, List.getD_cons_zero, List.getD_cons_succ, Nat.zero_add, Nat.reduceAdd, List.setIfInBounds_toArray, List.set_cons_zero, List.set_cons_succ]
            have HS := hSW.below hW
            have HO := row_below hOW hW
            have hn2 := hnW.carry hW
            have n0 := hn2.c0
            have n1 := hn2.c1
            have n2 := hn2.c2
            obtain ⟨a0, a1, a2, a3, a4, a5, a6, a7⟩ := HS.a.cells
            obtain ⟨za0, za1, za2, za3, za4, za5, za6, za7⟩ := HS.a.thaw
            obtain ⟨d0, d1, d2, d3, d4, d5, d6, d7⟩ := HS.x.cells
            obtain ⟨z0, z1, z2, z3, z4, z5, z6, z7⟩ := HS.x.thaw
            have hSA := HS.a
            have hbW := HS.be
            have hsz2 := HS.sz
            obtain ⟨ic, hic, hz0, hz1, hz2⟩ := info_partsN
            clear hSW hOW hnW hva
            go_wp2_with (at_builtin; refine wpList_append_own_at _ rfl _ _ 39 rfl (w.heap.size + 2) 82 ic _ 3 24 Try.underlying39 hic hz0 hz1 hz2 rfl (by decide) _ L.length (fl L) rfl (World.ownsRow.alloc HO _) ⟨W.heap.size, 0, none⟩ 1 1 [.int .i64 (O : Int), .int .i64 (T : Int), .int .i64 (Q : Int)] rfl rfl (rowN _ #[_, _, _] _) (by simp [Value.oneCell']) (by unfold maxLen; omega) (by omega) (by simp; omega) ?_; intro v' u2 hown' hgrow _ _; have hbu : Below (w.heap.size + 2) W u2 := ((Below.refl _ W).alloc hsz2 _).grown hgrow (by simp; omega) (fun q e => own_block HO q e); have hSu := HS.lower hbu; obtain ⟨p0, p1, p2, p3, p4, p5, p6, p7⟩ := hSu.x.cells; obtain ⟨t0, t1, t2, t3, t4, t5, t6, t7⟩ := hSu.x.thaw; obtain ⟨a3x, c3x, hv3⟩ : ∃ a3 c3, v' = .slice a3 (L.length + 1) c3 := own_sl hown'; subst hv3)
            go_roundw
            case rel =>
              have hlen : (L ++ [((O : Int), ((T : Nat) : Int), (Q : Int))]).length = L.length + 1 := by simp
              refine ⟨L ++ [((O : Int), ((T : Nat) : Int), (Q : Int))], (O : Int), j + 5, a3x, c3x, by simp, by simp, by rw [hlen]; omega, by have := HJ.out; omega, ?_, ?_, ?_, ?_, ?_⟩
              · show j + 5 = _
                have := HJ.out
                rw [hlen]
                omega
              · refine ⟨by omega, fun e => by simp at e, fun x hx => ?_⟩
                simp at hx
                rw [← hx]
              · show glu _ _ = R
                rw [HF.out, hlen, show cnt - (L.length + 1) = m by have := HM.out; omega]
              · show World.ownsRow _ _ _ _ _ _ _
                rw [hlen, fl_append]
                exact ownsRow_setCell_below hown' (by simp) _
              · show SX _ _ _ _ _ _ _
                rw [hlen]
                exact hSu.set7 _
            case measure => simp [vnatW]; omega
    · have hkk : L.length = cnt := by omega
      have hki : ¬ (L.length : Int) < (cnt : Int) := by omega
      have HE0 : Hid (rdE n bs = endW bs 3 y 0 0 (.ok (L, j))) := by
        have := HK.out
        rw [hkk, Nat.sub_self, rdK, glu, List.append_nil] at this
        exact HW.out.trans (by rw [← this])
      clear HK HW hkk
      by_cases t1 : bs.length < j + 4
      · have HE : Hid (rdE n bs = .error 76) := HE0.out.trans (if_pos t1)
        have t1i : (bs.length : Int) < (j : Int) + 4 := by omega
        go_wp2
        exact read_end (b := w.heap.size) (N := 0) rfl rfl rfl hSA (rro_err HE.out (by repeat' first | (with_reducible exact hbW) | (with_reducible refine Below.setCell (p := ⟨_, _, _⟩) ?_ (by simp) _)))
      have t1i : ¬ (bs.length : Int) < (j : Int) + 4 := by omega
      obtain ⟨b', o', e', hbV, hat⟩ := hrW (fun e => by subst e; simp at e0)
      cases e'
      have hnu : ∀ (a : Addr) (c : Nat) (W : World), RdB W (some a) ((bs.drop j).take 4) → Calls Try.prog 65 #[.slice (some a) 4 c] W fun e w' => e = .returned (.int .i64 (nm bs j 4 : Nat)) ∧ w' = W := fun a c W hr2 => by
        have := value_any (some a) c ((bs.drop j).take 4) W hr2 ((hb.drop _).take _) (by rw [sub_len (by omega)]; decide)
        rw [sub_len (by omega)] at this
        exact this
      have hsu : ∀ (a : Addr) (c : Nat) (W : World), RdB W (some a) (bs.take j) → Calls Try.prog 42 #[.slice (some a) j c] W fun e w' => e = .returned (.int .i64 (sumV (bs.take j) : Nat)) ∧ w' = W := fun a c W hr2 => by
        have hlj : (bs.take j).length = j := by rw [List.length_take]; omega
        have := rSum_any (some a) c (bs.take j) W hr2 (hb.take _) (by rw [hlj]; omega)
        rw [hlj] at this
        exact this
      have hat4 := hat.sub j 4
      have hatj := hat.sub 0 j
      simp only [List.drop_zero, Nat.add_zero] at hatj
      have HEc : Hid (∀ P Q, nm bs j 4 = P → sumV (bs.take j) = Q → rdE n bs = if P ≠ Q then .error 77 else if j + 4 < bs.length then .error 2 else .ok (3, y, 0, 0, L)) := by
        rintro P Q rfl rfl
        exact HE0.out.trans (if_neg t1)
      generalize nm bs j 4 = P at *
      generalize sumV (bs.take j) = SV at *
      obtain ⟨V, hVW⟩ : ∃ V, V = wr := ⟨_, rfl⟩
      subst hVW
      by_cases t2 : P = SV
      case neg =>
        have HE : Hid (rdE n bs = .error 77) := (HEc.out P SV rfl rfl).trans (if_pos t2)
        clear HE0 HEc
        go_wp2
        refine wp_region_any hmx ?_
        refine wpAny_pure (fun i__ => ([(.slice (some ⟨g', off', none⟩) bs.length cap), (.int .i64 (j : Int)), (.int .i64 (j : Int)), (.int .i64 ((j + 4 : Nat) : Int)), (.slice (some ⟨g', off' + j, none⟩) 4 (cap - j)), (.int .i64 (P : Int)), (.slice (some ⟨g', off', none⟩) bs.length cap), (.int .i64 (j : Int)), (.slice (some ⟨g', off', none⟩) j cap), (.int .i64 (SV : Int)), (.bool true)] : List Value).getD i__ undef) (fun W' => Below V.heap.size V W') (by kernel_rfl) (Below.refl _ _).drew ?_ ?_
        · refine (stepsFrom_cons ?_ (stepsFrom_cons ?_ (stepsFrom_cons ?_ (stepsFrom_cons ?_ (stepsFrom_cons ?_ (stepsFrom_cons ?_ (stepsFrom_cons ?_ (stepsFrom_cons ?_ (stepsFrom_cons ?_ (stepsFrom_cons ?_ (stepsFrom_cons ?_ trivial)))))))))))
          · exact step_move rfl trivial _ rfl (by kernel_rfl)
          · exact step_move rfl trivial _ rfl (by kernel_rfl)
          · exact step_move rfl trivial _ rfl (by kernel_rfl)
          · exact step_binOp rfl trivial _ _ _ _ _ _ _ rfl rfl rfl (fun w hw => bin_add64 _ _ _ (by rw [IntKind.wrap_i64]; omega))
          · exact step_slice rfl trivial _ _ _ _ _ (some (.int .i64 (j : Int))) (some (.int .i64 ((j + 4 : Nat) : Int))) rfl rfl rfl rfl (fun w hw => (slice_at g' off' bs.length cap j (j + 4) (by omega) (by omega) w).trans (by rw [show j + 4 - j = 4 by omega]; rfl))
          · exact step_call rfl trivial 65 _ _ [(.slice (some ⟨g', off' + j, none⟩) 4 (cap - j))] rfl (by kernel_rfl) (enters_of Try.func65 (by kernel_rfl) rfl) (fun w hw => (hnu _ _ w (fun _ => ⟨g', off' + j, rfl, Nat.lt_of_lt_of_le hbV hw.size, hat4.carry (hw.block g' hbV)⟩)).mono (by rintro e w' ⟨rfl, rfl⟩; exact ⟨rfl, hw⟩))
          · exact step_move rfl trivial _ rfl (by kernel_rfl)
          · exact step_move rfl trivial _ rfl (by kernel_rfl)
          · exact step_slice rfl trivial _ _ _ _ _ none (some (.int .i64 (j : Int))) rfl rfl rfl rfl (fun w hw => slice_to g' off' bs.length cap j (by omega) w)
          · exact step_call rfl trivial 42 _ _ [(.slice (some ⟨g', off', none⟩) j cap)] rfl (by kernel_rfl) (enters_of Try.func42 (by kernel_rfl) rfl) (fun w hw => (hsu _ _ w (fun _ => ⟨g', off', rfl, Nat.lt_of_lt_of_le hbV hw.size, hatj.carry (hw.block g' hbV)⟩)).mono (by rintro e w' ⟨rfl, rfl⟩; exact ⟨rfl, hw⟩))
          · exact step_binOp rfl trivial _ _ _ _ _ _ _ rfl rfl rfl (fun w hw => (bin_neq .i64 _ _).trans (by simp; omega))
        intro W hW
        first | refine hK _ _ ?_ | refine (‹∀ (a : Act) (w : World), Code.wp Try.prog _ _ a w → _›) _ _ ?_
        simp only [finL, List.getD_cons_zero, List.getD_cons_succ, Nat.zero_add, Nat.reduceAdd, List.setIfInBounds_toArray, List.set_cons_zero, List.set_cons_succ]
        have HS := HS.below hW
        clear a0 a1 a2 a3 a4 a5 a6 a7 za0 za1 za2 za3 za4 za5 za6 za7 d0 d1 d2 d3 d4 d5 d6 d7 z0 z1 z2 z3 z4 z5 z6 z7 hSA hbW
        obtain ⟨a0, a1, a2, a3, a4, a5, a6, a7⟩ := HS.a.cells
        obtain ⟨za0, za1, za2, za3, za4, za5, za6, za7⟩ := HS.a.thaw
        obtain ⟨d0, d1, d2, d3, d4, d5, d6, d7⟩ := HS.x.cells
        obtain ⟨z0, z1, z2, z3, z4, z5, z6, z7⟩ := HS.x.thaw
        have hSA := HS.a
        have hbW := HS.be
        go_wp2
        exact read_end (b := w.heap.size) (N := 0) rfl rfl rfl hSA (rro_err HE.out (by repeat' first | (with_reducible exact hbW) | (with_reducible refine Below.setCell (p := ⟨_, _, _⟩) ?_ (by simp) _)))
      have HEd : Hid (rdE n bs = if j + 4 < bs.length then .error 2 else .ok (3, y, 0, 0, L)) := (HEc.out P SV rfl rfl).trans (if_neg (by simpa using t2))
      clear HE0 HEc
      by_cases t3 : j + 4 < bs.length
      · have HE : Hid (rdE n bs = .error 2) := HEd.out.trans (if_pos t3)
        have t3i : (j : Int) + 4 < (bs.length : Int) := by omega
        clear HEd
        go_wp2
        refine wp_region_any hmx ?_
        refine wpAny_pure (fun i__ => ([(.slice (some ⟨g', off', none⟩) bs.length cap), (.int .i64 (j : Int)), (.int .i64 (j : Int)), (.int .i64 ((j + 4 : Nat) : Int)), (.slice (some ⟨g', off' + j, none⟩) 4 (cap - j)), (.int .i64 (P : Int)), (.slice (some ⟨g', off', none⟩) bs.length cap), (.int .i64 (j : Int)), (.slice (some ⟨g', off', none⟩) j cap), (.int .i64 (SV : Int)), (.bool false)] : List Value).getD i__ undef) (fun W' => Below V.heap.size V W') (by kernel_rfl) (Below.refl _ _).drew ?_ ?_
        · refine (stepsFrom_cons ?_ (stepsFrom_cons ?_ (stepsFrom_cons ?_ (stepsFrom_cons ?_ (stepsFrom_cons ?_ (stepsFrom_cons ?_ (stepsFrom_cons ?_ (stepsFrom_cons ?_ (stepsFrom_cons ?_ (stepsFrom_cons ?_ (stepsFrom_cons ?_ trivial)))))))))))
          · exact step_move rfl trivial _ rfl (by kernel_rfl)
          · exact step_move rfl trivial _ rfl (by kernel_rfl)
          · exact step_move rfl trivial _ rfl (by kernel_rfl)
          · exact step_binOp rfl trivial _ _ _ _ _ _ _ rfl rfl rfl (fun w hw => bin_add64 _ _ _ (by rw [IntKind.wrap_i64]; omega))
          · exact step_slice rfl trivial _ _ _ _ _ (some (.int .i64 (j : Int))) (some (.int .i64 ((j + 4 : Nat) : Int))) rfl rfl rfl rfl (fun w hw => (slice_at g' off' bs.length cap j (j + 4) (by omega) (by omega) w).trans (by rw [show j + 4 - j = 4 by omega]; rfl))
          · exact step_call rfl trivial 65 _ _ [(.slice (some ⟨g', off' + j, none⟩) 4 (cap - j))] rfl (by kernel_rfl) (enters_of Try.func65 (by kernel_rfl) rfl) (fun w hw => (hnu _ _ w (fun _ => ⟨g', off' + j, rfl, Nat.lt_of_lt_of_le hbV hw.size, hat4.carry (hw.block g' hbV)⟩)).mono (by rintro e w' ⟨rfl, rfl⟩; exact ⟨rfl, hw⟩))
          · exact step_move rfl trivial _ rfl (by kernel_rfl)
          · exact step_move rfl trivial _ rfl (by kernel_rfl)
          · exact step_slice rfl trivial _ _ _ _ _ none (some (.int .i64 (j : Int))) rfl rfl rfl rfl (fun w hw => slice_to g' off' bs.length cap j (by omega) w)
          · exact step_call rfl trivial 42 _ _ [(.slice (some ⟨g', off', none⟩) j cap)] rfl (by kernel_rfl) (enters_of Try.func42 (by kernel_rfl) rfl) (fun w hw => (hsu _ _ w (fun _ => ⟨g', off', rfl, Nat.lt_of_lt_of_le hbV hw.size, hatj.carry (hw.block g' hbV)⟩)).mono (by rintro e w' ⟨rfl, rfl⟩; exact ⟨rfl, hw⟩))
          · exact step_binOp rfl trivial _ _ _ _ _ _ _ rfl rfl rfl (fun w hw => (bin_neq .i64 _ _).trans (by simp [t2]))
        intro W hW
        first | refine hK _ _ ?_ | refine (‹∀ (a : Act) (w : World), Code.wp Try.prog _ _ a w → _›) _ _ ?_
        simp only [finL, List.getD_cons_zero, List.getD_cons_succ, Nat.zero_add, Nat.reduceAdd, List.setIfInBounds_toArray, List.set_cons_zero, List.set_cons_succ]
        have HS := HS.below hW
        clear a0 a1 a2 a3 a4 a5 a6 a7 za0 za1 za2 za3 za4 za5 za6 za7 d0 d1 d2 d3 d4 d5 d6 d7 z0 z1 z2 z3 z4 z5 z6 z7 hSA hbW
        obtain ⟨a0, a1, a2, a3, a4, a5, a6, a7⟩ := HS.a.cells
        obtain ⟨za0, za1, za2, za3, za4, za5, za6, za7⟩ := HS.a.thaw
        obtain ⟨d0, d1, d2, d3, d4, d5, d6, d7⟩ := HS.x.cells
        obtain ⟨z0, z1, z2, z3, z4, z5, z6, z7⟩ := HS.x.thaw
        have hSA := HS.a
        have hbW := HS.be
        go_wp2
        exact read_end (b := w.heap.size) (N := 0) rfl rfl rfl hSA (rro_err HE.out (by repeat' first | (with_reducible exact hbW) | (with_reducible refine Below.setCell (p := ⟨_, _, _⟩) ?_ (by simp) _)))
      have HE : Hid (rdE n bs = .ok (3, y, 0, 0, L)) := HEd.out.trans (if_neg t3)
      have t3i : ¬ (j : Int) + 4 < (bs.length : Int) := by omega
      clear HEd
      go_wp2
      refine wp_region_any hmx ?_
      refine wpAny_pure (fun i__ => ([(.slice (some ⟨g', off', none⟩) bs.length cap), (.int .i64 (j : Int)), (.int .i64 (j : Int)), (.int .i64 ((j + 4 : Nat) : Int)), (.slice (some ⟨g', off' + j, none⟩) 4 (cap - j)), (.int .i64 (P : Int)), (.slice (some ⟨g', off', none⟩) bs.length cap), (.int .i64 (j : Int)), (.slice (some ⟨g', off', none⟩) j cap), (.int .i64 (SV : Int)), (.bool false)] : List Value).getD i__ undef) (fun W' => Below V.heap.size V W') (by kernel_rfl) (Below.refl _ _).drew ?_ ?_
      · refine (stepsFrom_cons ?_ (stepsFrom_cons ?_ (stepsFrom_cons ?_ (stepsFrom_cons ?_ (stepsFrom_cons ?_ (stepsFrom_cons ?_ (stepsFrom_cons ?_ (stepsFrom_cons ?_ (stepsFrom_cons ?_ (stepsFrom_cons ?_ (stepsFrom_cons ?_ trivial)))))))))))
        · exact step_move rfl trivial _ rfl (by kernel_rfl)
        · exact step_move rfl trivial _ rfl (by kernel_rfl)
        · exact step_move rfl trivial _ rfl (by kernel_rfl)
        · exact step_binOp rfl trivial _ _ _ _ _ _ _ rfl rfl rfl (fun w hw => bin_add64 _ _ _ (by rw [IntKind.wrap_i64]; omega))
        · exact step_slice rfl trivial _ _ _ _ _ (some (.int .i64 (j : Int))) (some (.int .i64 ((j + 4 : Nat) : Int))) rfl rfl rfl rfl (fun w hw => (slice_at g' off' bs.length cap j (j + 4) (by omega) (by omega) w).trans (by rw [show j + 4 - j = 4 by omega]; rfl))
        · exact step_call rfl trivial 65 _ _ [(.slice (some ⟨g', off' + j, none⟩) 4 (cap - j))] rfl (by kernel_rfl) (enters_of Try.func65 (by kernel_rfl) rfl) (fun w hw => (hnu _ _ w (fun _ => ⟨g', off' + j, rfl, Nat.lt_of_lt_of_le hbV hw.size, hat4.carry (hw.block g' hbV)⟩)).mono (by rintro e w' ⟨rfl, rfl⟩; exact ⟨rfl, hw⟩))
        · exact step_move rfl trivial _ rfl (by kernel_rfl)
        · exact step_move rfl trivial _ rfl (by kernel_rfl)
        · exact step_slice rfl trivial _ _ _ _ _ none (some (.int .i64 (j : Int))) rfl rfl rfl rfl (fun w hw => slice_to g' off' bs.length cap j (by omega) w)
        · exact step_call rfl trivial 42 _ _ [(.slice (some ⟨g', off', none⟩) j cap)] rfl (by kernel_rfl) (enters_of Try.func42 (by kernel_rfl) rfl) (fun w hw => (hsu _ _ w (fun _ => ⟨g', off', rfl, Nat.lt_of_lt_of_le hbV hw.size, hatj.carry (hw.block g' hbV)⟩)).mono (by rintro e w' ⟨rfl, rfl⟩; exact ⟨rfl, hw⟩))
        · exact step_binOp rfl trivial _ _ _ _ _ _ _ rfl rfl rfl (fun w hw => (bin_neq .i64 _ _).trans (by simp [t2]))
      intro W hW
      first | refine hK _ _ ?_ | refine (‹∀ (a : Act) (w : World), Code.wp Try.prog _ _ a w → _›) _ _ ?_
      simp only [finL, List.getD_cons_zero, List.getD_cons_succ, Nat.zero_add, Nat.reduceAdd, List.setIfInBounds_toArray, List.set_cons_zero, List.set_cons_succ]
      have HS := HS.below hW
      have HO := row_below HO hW
      clear a0 a1 a2 a3 a4 a5 a6 a7 za0 za1 za2 za3 za4 za5 za6 za7 d0 d1 d2 d3 d4 d5 d6 d7 z0 z1 z2 z3 z4 z5 z6 z7 hSA hbW
      obtain ⟨a0, a1, a2, a3, a4, a5, a6, a7⟩ := HS.a.cells
      obtain ⟨za0, za1, za2, za3, za4, za5, za6, za7⟩ := HS.a.thaw
      obtain ⟨d0, d1, d2, d3, d4, d5, d6, d7⟩ := HS.x.cells
      obtain ⟨z0, z1, z2, z3, z4, z5, z6, z7⟩ := HS.x.thaw
      have hSA := HS.a
      have hbW := HS.be
      go_wp2
      exact read_end (b := w.heap.size) (N := 0) rfl rfl rfl hSA (rro_ok HE.out (ownsRow_base (ownsRow_setCell_below (ownsRow_setCell_below (ownsRow_setCell_below (ownsRow_setCell_below (ownsRow_setCell_below (ownsRow_setCell_below (ownsRow_setCell_below (ownsRow_setCell_below HO (by simp) _) (by simp) _) (by simp) _) (by simp) _) (by simp) _) (by simp) _) (by simp) _) (by simp) _) (by omega)) (by repeat' first | (with_reducible exact hbW) | (with_reducible refine Below.setCell (p := ⟨_, _, _⟩) ?_ (by simp) _)))
end Go.Proofs.Ytndogopllcpiiaa
