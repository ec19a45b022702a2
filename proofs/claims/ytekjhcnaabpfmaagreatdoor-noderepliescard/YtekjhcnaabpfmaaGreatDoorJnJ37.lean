import Derived.Test.YtekjhcnaabpfmaaGreatDoorJnJ36
import Derived.Test.YtekjhcnaabpfmaaGreatDoorJnJ19
import Derived.Test.YtekjhcnaabpfmaaGreatDoorJnJ5
import Derived.Test.YtekjhcnaabpfmaaGreatDoorJnJ15
set_option maxHeartbeats 40000000
set_option maxRecDepth 100000
set_option linter.unusedVariables false
namespace Go.Proofs.YtekjhcnaabpfmaaGreatDoor
open Go.RowKit Go.Shelf Go.Lib
theorem idxvB (p : Nat → Bool) (k : Nat) (hk : k < 100) (w : World) : (Instr.index 172 (.agg (bC p)) (.int .i64 (k : Int))).run Tryz.prog w = .ok (.bool (p k)) w := by
 have h2 : 0 ≤ (k : Int) := by omega
 have he : Tryz.prog.plainKey 4 = true := by kernel_rfl
 have hi : (Tryz.prog.info? 4).isSome = true := by kernel_rfl
 obtain ⟨i, hi⟩ := Option.isSome_iff_exists.1 hi
 have hc : Tryz.prog.cellsOf 4 = 1 := by kernel_rfl
 have p1 := run_part_plain (P := Tryz.prog) w he (off := k * 1) (by rw [Nat.mul_one]; exact bC_get p k hk)
 simp only [Instr.index, asIntOf, Sem.run_bind, Sem.run_pure, Result.andThen_ok, run_underlying Tryz.underlying172]
 have h3 : (0 : Int) ≤ (k : Int) ∧ (k : Int) < ((100 : Nat) : Int) := ⟨h2, by omega⟩
 rw [if_pos h3]
 simp only [Sem.run_bind, run_sizeOf w hi, Result.andThen_ok, hc, Int.toNat_natCast]
 exact p1
theorem rHas_any (N : Nat) (id : Int) (w : World) : Calls Tryz.prog 47 #[sv N, .int .i64 id] w fun e w' => e = .returned (.bool (hasB N id)) ∧ Below w.heap.size w w' := by
 have hr := row_any N
 simp only [sv] at hr ⊢
 by_cases h : 0 ≤ id ∧ id < 100
 · obtain ⟨i, rfl⟩ := Int.eq_ofNat_of_zero_le h.1
   have hi : i < 100 := by omega
   have t1 : (i : Int) ≥ 0 := by omega
   have t3 : (i : Int) < 100 := by omega
   have hix := idxvB N.testBit i hi
   have hV : hasB N (i : Int) = N.testBit i := by simp [hasB, h]
   rw [hV]
   go_enter Tryz.func47, Tryz.ntmps47
   go_wp2_with (go_at_call 93; refine (hr _).mono ?_; rintro e w1 ⟨rfl, hb1⟩)
   go_ret
   exact ⟨rfl, bcarry (alloc_below w _) (Nat.le_refl _) hb1⟩
 · have hV : hasB N id = false := by simp [hasB, h]
   rw [hV]
   by_cases t1 : id ≥ 0
   · have t2 : ¬ id < 100 := by omega
     go_enter Tryz.func47, Tryz.ntmps47
     go_wp2
     go_ret
     exact ⟨rfl, alloc_below w _⟩
   · go_enter Tryz.func47, Tryz.ntmps47
     go_wp2
     go_ret
     exact ⟨rfl, alloc_below w _⟩
theorem rWithin_any (N : Nat) (hN : N < S128) (n : Int) (w : World) : Calls Tryz.prog 44 #[sv N, .int .i64 n] w fun e w' => e = .returned (.bool (wthB N n)) ∧ Below w.heap.size w w' := by
 simp only [sv]
 go_enter Tryz.func44, Tryz.ntmps44
 go_wp2
 go_loopw [5] (fun c wz => ∃ k : Nat, c = .int .i64 k ∧ k ≤ 128 ∧ (∀ i, i < k → N.testBit i = true → i < topW n) ∧ Zh4 wz w.heap.size (wd N) ∧ Below w.heap.size w wz) (fun c _ => 128 - vnat c)
 case atStart => exact ⟨0, rfl, by omega, fun i h => by omega, get_new (by simp), alloc_below w _⟩
 case round =>
  obtain ⟨k, rfl, hk, he, h1, hb⟩ := hrel
  by_cases hk4 : k < 128
  · have hki : (k : Int) < 128 := by omega
    have hq : k / 32 < 4 := by omega
    have hq' : (k : Int) / 32 < 4 := by omega
    have hc1 := h1.cell (k / 32) hq
    have hbit : (bits BinOp.and IntKind.u32 ((wd N (k / 32) : Int) / 2 ^ (k % 32)) 1 == 1) = N.testBit k := by
      have e : (wd N (k / 32) : Int) / 2 ^ (k % 32) = ((wd N (k / 32) / 2 ^ (k % 32) : Nat) : Int) := by simp
      have hl : wd N (k / 32) / 2 ^ (k % 32) < 4294967296 := Nat.lt_of_le_of_lt (Nat.div_le_self _ _) (wd_lt N _)
      rw [e, show (1 : Int) = ((1 : Nat) : Int) from rfl, u32_and_nat _ _ hl (by omega), ← bit_word N k, ← shr_bit]
      by_cases h : wd N (k / 32) / 2 ^ (k % 32) &&& 1 = 1
      · rw [h]; rfl
      · have h2 : ¬ ((wd N (k / 32) / 2 ^ (k % 32) &&& 1 : Nat) : Int) = ((1 : Nat) : Int) := by omega
        rw [beq_eq_false_iff_ne.2 h, beq_eq_false_iff_ne.2 h2]
    have hbad : N.testBit k = true → ¬ k < topW n → wthB N n = false := by
      intro h2 h3
      unfold wthB
      rw [decide_eq_false_iff_not]
      intro h4
      have h5 : (N % 2 ^ topW n).testBit k = true := by rw [← h4]; exact h2
      rw [Nat.testBit_mod_two_pow] at h5
      simp [h3] at h5
    have htop := topW_lt n k
    cases hb0 : N.testBit k
    · rw [hb0] at hbit
      clear hbad htop
      go_wp2
      go_roundw
      case rel => exact ⟨k + 1, by simp, by omega, fun i hi h2 => by
        by_cases e : i = k
        · subst e; rw [hb0] at h2; cases h2
        · exact he i (by omega) h2, h1, hb⟩
      case measure => simp only [vnat]; omega
    · rw [hb0] at hbit hbad
      by_cases t1 : (k : Int) ≥ n
      · have t1' : n ≤ (k : Int) := t1
        have hres := hbad rfl (fun c => by have := htop.1 c; omega)
        clear hbad htop
        go_wp2
        go_ret
        first | exact ⟨rfl, hb⟩ | exact ⟨ret_bool hres.symm, hb⟩
      · by_cases t2 : (k : Int) ≥ 100
        · have t2' : 100 ≤ (k : Int) := t2
          have hres := hbad rfl (fun c => by have := htop.1 c; omega)
          clear hbad htop
          go_wp2
          go_ret
          first | exact ⟨rfl, hb⟩ | exact ⟨ret_bool hres.symm, hb⟩
        · have hkt : k < topW n := htop.2 ⟨by omega, by omega⟩
          clear hbad htop
          go_wp2
          go_roundw
          case rel => exact ⟨k + 1, by simp, by omega, fun i hi h2 => by
           by_cases e : i = k
           · subst e; exact hkt
           · exact he i (by omega) h2, h1, hb⟩
          case measure => simp only [vnat]; omega
  · have hk5 : k = 128 := by omega
    subst hk5
    have hres : wthB N n = true := by
      unfold wthB
      rw [decide_eq_true_eq]
      apply Nat.eq_of_testBit_eq; intro i
      rw [Nat.testBit_mod_two_pow]
      by_cases hi : i < 128
      · cases h2 : N.testBit i with
        | false => simp
        | true => simp [he i hi h2]
      · have : N.testBit i = false := Nat.testBit_lt_two_pow (Nat.lt_of_lt_of_le hN (Nat.pow_le_pow_right (n := 2) (i := 128) (by decide) (by omega)))
        simp [this]
    go_wp2
    go_ret
    first | exact ⟨rfl, hb⟩ | exact ⟨ret_bool hres.symm, hb⟩
end Go.Proofs.YtekjhcnaabpfmaaGreatDoor
namespace Go.Proofs.YtekjhcnaabpfmaaGreatDoor
open Go.RowKit Go.Shelf
theorem rnumber_any (base : Nat) (b0 : Value) (L : List Nat) (v m : Nat) (w : World) (hbase : base ≤ w.heap.size) (h : OwB w base b0 L) (hL : L.length ≤ 100000) (hm : m ≤ 8) : Calls Tryz.prog 46 #[b0, .int .i64 (v : Int), .int .i64 (m : Int)] w fun e w' => ∃ b', e = .returned b' ∧ OwB w' base b' (L ++ numBW v m) ∧ Below base w w' := by
 obtain ⟨ic, hic, hz0, hz1, hz2⟩ := info_partsB
 go_enter Tryz.func46, Tryz.ntmps46
 go_wp2
 go_loopw [0, 7] (fun b i wz => ∃ (z : Int) (j : Nat) (C : List Nat), i = .int .i64 z ∧ Hid (z = (j : Int) - 1) ∧ -1 ≤ z ∧ z ≤ 8 ∧ j ≤ m ∧ C.length ≤ L.length + 8 ∧ Hid (C.length + j = L.length + m) ∧ Hid (C ++ numBW v j = L ++ numBW v m) ∧ OwB wz base b C ∧ Below base w wz) (fun _ i _ => match i with | .int _ z => (z + 1).toNat | _ => 0)
 case atStart => exact ⟨(m : Int) - 1, m, L, rfl, rfl, by omega, by omega, Nat.le_refl _, by omega, rfl, rfl, h, Below.refl _ _⟩
 case round =>
  obtain ⟨z, j, C, rfl, HZ, hz, hz8, hj, hC, HCL, HC, hrow, hbw⟩ := hrel
  have hsw := hbw.size
  by_cases hkl : 0 ≤ z
  · obtain ⟨q, rfl⟩ := Int.eq_ofNat_of_zero_le hkl
    have hjq : j = q + 1 := by have := HZ.out; omega
    subst hjq
    have HN : Hid ((C ++ [v / 2 ^ (8 * q) % 256]) ++ numBW v q = L ++ numBW v m) := by
     show (C ++ [v / 2 ^ (8 * q) % 256]) ++ numBW v q = L ++ numBW v m
     rw [← HC.out, numBW, List.append_assoc]
     rfl
    obtain ⟨E, hE⟩ : ∃ E : Nat, 8 * q = E := ⟨_, rfl⟩
    rw [hE] at HN
    have h8 : (8 : Int) * (q : Int) = (E : Int) := by omega
    have hE64 : E ≤ 64 := by omega
    have hby := byte_ofW v E
    obtain ⟨D, hD⟩ : ∃ D : Nat, D = v / 2 ^ E % 256 := ⟨_, rfl⟩
    rw [← hD] at hby HN
    clear hE
    have hl2 : C.length ≤ 100008 := by omega
    have HC2 : Hid (C.length + (q + 1) = L.length + m) := HCL
    clear hD HCL
    unfold OwB at hrow
    clear h HC HZ
    have hbs := bs1
    go_wp2_with (at_builtin; refine wpList_append_own _ rfl _ _ 23 rfl base 5 ic _ 1 1 Tryz.underlying23 hic hz0 hz1 hz2 rfl (by decide) _ C.length (cBW C) rfl (hrow.alloc _) ⟨wr.heap.size, 0, none⟩ 1 1 [_] rfl rfl (rowN _ #[_] _) (by simp [Value.oneCell']) (by unfold maxLen; omega) (by omega) (by simp; omega) ?_; intro v' w2 hown' hgrow _)
    go_roundw
    case rel =>
     refine ⟨(q : Int) - 1, q, C ++ [D], by simp, rfl, by omega, by omega, by omega, ?_, ?_, HN, ?_, (hbw.alloc (by omega) _).grown hgrow (by simp; omega) (fun q e => own_block hrow q e)⟩
     · have := HC2.out; simp; omega
     · show (C ++ [D]).length + q = L.length + m
       have := HC2.out; simp; omega
     · unfold OwB
       rw [cB_appW, List.length_append]
       exact hown'
    case measure => simp
  · have hj0 : j = 0 := by have := HZ.out; omega
    subst hj0
    have HE : Hid (C = L ++ numBW v m) := by have := HC.out; rw [numBW, List.append_nil] at this; exact this
    clear HC HZ HCL
    go_wp2
    go_ret
    exact ⟨_, rfl, HE.out ▸ hrow, hbw⟩
theorem bs5 (W : World) (a b c d e : Int) : (Instr.buildSlice 23 5 #[(0, .int .u8 a), (1, .int .u8 b), (2, .int .u8 c), (3, .int .u8 d), (4, .int .u8 e)]).run Tryz.prog W = .ok (.slice (some ⟨W.heap.size, 0, none⟩) 5 5) (W.alloc (.cells #[.int .u8 a, .int .u8 b, .int .u8 c, .int .u8 d, .int .u8 e] 5)) := by
 go_simp
structure SR (w : World) (kd : Int) (fr : Nat) (rd : Int) (N : Nat) (v b : Value) (C : List Nat) (u : World) : Prop where
 rb : RBW u w.heap.size kd fr rd N v
 be : Below w.heap.size w u
 sz : w.heap.size + 1 ≤ u.heap.size
 ow : OwB u (w.heap.size + 1) b C
 ln : C.length ≤ 600
theorem RBW.lower {W W' : World} {b B : Nat} {k f r : Int} {N : Nat} {v : Value} (h : RBW W b k f r N v) (hb : Below B W W') (hB : b < B) : RBW W' b k f r N v := (hb.block b hB).trans h
theorem SR.step {w : World} {kd : Int} {fr : Nat} {rd : Int} {N : Nat} {v b : Value} {C : List Nat} {u u' : World} {b' : Value} {C' : List Nat} (h : SR w kd fr rd N v b C u) (hb : Below (w.heap.size + 1) u u') (ho : OwB u' (w.heap.size + 1) b' C') (hl : C'.length ≤ 600) : SR w kd fr rd N v b' C' u' :=
 ⟨h.rb.lower hb (Nat.lt_succ_self _), h.be.trans (hb.mono (Nat.le_succ _)), Nat.le_trans h.sz hb.size, ho, hl⟩
theorem SR.below {w : World} {kd : Int} {fr : Nat} {rd : Int} {N : Nat} {v b : Value} {C : List Nat} {u u' : World} (h : SR w kd fr rd N v b C u) (hb : Below u.heap.size u u') : SR w kd fr rd N v b C u' :=
 h.step (hb.mono h.sz) (h.ow.below hb) h.ln
theorem SR.app {w : World} {kd : Int} {fr : Nat} {rd : Int} {N : Nat} {v b : Value} {C : List Nat} {u u' : World} {b' : Value} {o : Obj} (xs : List Nat) (h : SR w kd fr rd N v b C u) (hg : (u.alloc o).grownBy u' b.ownBlock) (ho : u'.ownsRow (w.heap.size + 1) 5 1 b' (C.length + xs.length) (cBW C ++ cBW xs)) (hl : (C ++ xs).length ≤ 600) : SR w kd fr rd N v b' (C ++ xs) u' := by
 refine h.step (((Below.refl _ u).alloc h.sz o).grown hg (by simp; have := h.sz; omega) (fun k e => own_block h.ow k e)) ?_ hl
 unfold OwB
 rw [cB_appW, List.length_append]
 exact ho
theorem load_rbW {W : World} {p : Nat} {kd fr rd : Int} {N : Nat} {a : Option Addr} {n c : Nat} (h : RBW W p kd fr rd N (.slice a n c)) : (Instr.loadAt 36 (.pointer (some ⟨p, 7, none⟩))).run Tryz.prog W = .ok (.slice a n c) W := by
 have c0 := h.cells.2.2.2.2.2.2.2
 go_simp
theorem field_rbW (p : Nat) (W : World) : (Instr.fieldAt 38 (.pointer (some ⟨p, 0, none⟩)) 4).run Tryz.prog W = .ok (.pointer (some ⟨p, 7, none⟩)) W := by go_simp
theorem field_nt2 (b off : Nat) (W : World) : (Instr.fieldAt 65 (.pointer (some ⟨b, off, none⟩)) 2).run Tryz.prog W = .ok (.pointer (some ⟨b, off + 2, none⟩)) W := by go_simp
theorem load_kd {W : World} {b off : Nat} {l : List (Int × Int × Int)} (h : NtsAt W b off l) {k : Nat} {o t q : Int} (hx : l[k]? = some (o, t, q)) : (Instr.loadAt 3 (.pointer (some ⟨b, off + k * 3 + 2, none⟩))).run Tryz.prog W = .ok (.int .i64 q) W := by
 have := (h k _ hx).2.2
 go_simp
theorem conv8 (z : Nat) (h : z < 256) (w : World) : (convert 3 5 (.int .i64 (z : Int))).run Tryz.prog w = .ok (.int .u8 (z : Int)) w := by
 exact conv_int .u8 (z : Int) (by kernel_rfl) Tryz.underlying5 (by rw [IntKind.wrap_u8']; omega) w
structure JQW (w : World) (kd : Int) (fr : Nat) (rd : Int) (N : Nat) (v b : Value) (C : List Nat) (o q gb off : Nat) (l : List (Int × Int × Int)) (g : Nat × Value) (d15 d16 : Bool) (W : World) : Prop where
 rb : RBW W w.heap.size kd fr rd N v
 be : Below w.heap.size w W
 sz : w.heap.size + 1 ≤ W.heap.size
 nt : NtsAt W gb off l
 ow : W.ownsRow (w.heap.size + 1) 5 1 (cond d16 g.2 b) (cond d16 (C.length + 2) C.length) (cond d16 (cBW C ++ cBW [o, q]) (cBW C))
 bx : d15 = true → d16 = false → W.heap[g.1]? = some (.cells #[.int .u8 (o : Int), .int .u8 (q : Int)] 5 (0, 0))
section
variable {w : World} {kd : Int} {fr : Nat} {rd : Int} {N : Nat} {v b : Value} {C : List Nat} {o q gb off : Nat} {l : List (Int × Int × Int)} {g : Nat × Value} {W : World}
theorem JQW.build (hgb : gb < w.heap.size) (h : JQW w kd fr rd N v b C o q gb off l g false false W) : JQW w kd fr rd N v b C o q gb off l (W.heap.size, g.2) true false (W.alloc (.cells #[.int .u8 (o : Int), .int .u8 (q : Int)] 5)) := by
 have hb := al1'W W (.cells #[.int .u8 (o : Int), .int .u8 (q : Int)] 5)
 exact ⟨h.rb.below hb, bel2 h.be hb, by have := h.sz; simp; omega, h.nt.carry (Nat.lt_of_lt_of_le hgb h.be.size) hb, row_belowW h.ow hb, fun _ _ => zna rfl⟩
theorem JQW.app (hgb : gb < w.heap.size) (ty : TypeId) (hC : C.length ≤ 600) (h : JQW w kd fr rd N v b C o q gb off l g true false W) : ∃ v' W', (Builtin.append_ #[23, 23] ty #[b, .slice (some ⟨g.1, 0, none⟩) 2 2]).run Tryz.prog W = .ok v' W' ∧ JQW w kd fr rd N v b C o q gb off l (g.1, v') true true W' := by
 obtain ⟨ic, hic, hz0, hz1, hz2⟩ := info_partsB
 have hbx := h.bx rfl rfl
 have ho : W.ownsRow (w.heap.size + 1) 5 1 b C.length (cBW C) := h.ow
 obtain ⟨v', W', hr, h2, h3, _, _⟩ := run_append_own_at (P := Tryz.prog) W (w.heap.size + 1) 23 ty 5 ic _ 1 1 Tryz.underlying23 hic hz0 hz1 hz2 rfl (by decide) b C.length (cBW C) ho ⟨g.1, 0, none⟩ 2 2 (cBW [o, q]) rfl (fun j u hj => by
  rw [add_pl, Nat.zero_add, zca hbx j]
  match j, hj with
  | 0, hj => simp [cBW] at hj; subst hj; rfl
  | 1, hj => simp [cBW] at hj; subst hj; rfl
  | j + 2, hj => simp [cBW] at hj) (by simp [cBW, Value.oneCell']) (by unfold maxLen; omega) (by omega) h.sz
 have hbl : Below (w.heap.size + 1) W W' := (Below.refl _ W).grown h3 h.sz (fun k e => own_block ho k e)
 refine ⟨v', W', hr, h.rb.lower hbl (Nat.lt_succ_self _), h.be.trans (hbl.mono (Nat.le_succ _)), Nat.le_trans h.sz hbl.size, ?_, h2, fun _ e => by cases e⟩
 intro k x hk
 have := h.nt k x hk
 exact ⟨(hbl.cell (p := ⟨gb, off + k * 3, none⟩) (Nat.lt_succ_of_lt hgb)).trans this.1, (hbl.cell (p := ⟨gb, off + k * 3 + 1, none⟩) (Nat.lt_succ_of_lt hgb)).trans this.2.1, (hbl.cell (p := ⟨gb, off + k * 3 + 2, none⟩) (Nat.lt_succ_of_lt hgb)).trans this.2.2⟩
end
section
variable {G : Type} {P : Program} {md : Region.Mode} {ops : Array Oper} {Q : Exit → Act → World → Prop} {X0 : Array Value} {val : G → Nat → Value} {J : G → (Nat → Bool) → World → Prop} {i : Nat} {o : Oper}
theorem stepG_build2 (hi : ops[i]? = some o) (hg : o.guard = none) (t : TypeId) (x y : Operand) (v u : Value) (ho : o.op = .buildSlice t 2 #[(0, x), (1, y)]) (hx : ∀ g, rdo md ops X0 (val g) i o x = some v) (hy : ∀ g, rdo md ops X0 (val g) i o y = some u)
  (h : ∀ g d w, J g d w → d i = false → (∀ j oj, ops[j]? = some oj → d j = true → ∀ k, bindsOn md oj k = true → d k = true) → ∃ g' w', (Instr.buildSlice t 2 #[(0, v), (1, u)]).run P w = .ok (val g' i) w' ∧ (∀ j, d j = true → val g' j = val g j) ∧ J g' (fun j => if j = i then true else d j) w') : StepG P md ops Q X0 val J i o := by
 intro g d a w hJ hun hdep hcl hS
 have hS' : Seen md ops X0 (val g) i o a := hS
 obtain ⟨g', w', h1, h2, h3⟩ := h g d w hJ hun hcl
 unfold wpOp
 rw [hi]
 simp only [Region.wanted, hg, if_true]
 refine .inl ?_
 unfold Oper.wp execOp
 simp only [ho, List.map_toArray, List.map_cons, List.map_nil, hS'.eval (hx g), hS'.eval (hy g), Sem.run_bind, h1, Result.andThen_ok, Sem.run_pure, Oper.upon_value]
 exact ⟨g', h2, rfl, h3⟩
theorem stepG_appendW (hi : ops[i]? = some o) (hg : o.guard = none) (t : TypeId) (x y : Operand) (vx vy : G → Value) (ho : o.op = .call { callee := .builtin .append, args := #[x, y], argTypes := #[t, t] }) (hx : ∀ g, rdo md ops X0 (val g) i o x = some (vx g)) (hy : ∀ g, rdo md ops X0 (val g) i o y = some (vy g))
  (h : ∀ g d w, J g d w → d i = false → (∀ j, bindsOn md o j = true → d j = true) → (∀ j oj, ops[j]? = some oj → d j = true → ∀ k, bindsOn md oj k = true → d k = true) → ∃ g' w', (Builtin.append_ #[t, t] o.type #[vx g, vy g]).run P w = .ok (val g' i) w' ∧ (∀ j, d j = true → val g' j = val g j) ∧ J g' (fun j => if j = i then true else d j) w') : StepG P md ops Q X0 val J i o := by
 intro g d a w hJ hun hdep hcl hS
 have hS' : Seen md ops X0 (val g) i o a := hS
 obtain ⟨g', w', h1, h2, h3⟩ := h g d w hJ hun hdep hcl
 unfold wpOp
 rw [hi]
 simp only [Region.wanted, hg, if_true]
 refine .inl ?_
 unfold Oper.wp execOp
 simp only [ho, resolve, invoke, builtin, List.map_toArray, List.map_cons, List.map_nil, hS'.eval (hx g), hS'.eval (hy g), Sem.run_bind, h1, Result.andThen_ok, Sem.run_pure, Oper.upon_value]
 exact ⟨g', h2, rfl, h3⟩
end
end Go.Proofs.YtekjhcnaabpfmaaGreatDoor
