/- The document's Doubts: what it answers. -/
import Derived.Test.YtgnhainfcfcodaaGreatAvb
import Derived.Test.YtgnhainfcfcodaaGreatAuh
namespace Go.Proofs.YtgnhainfcfcodaaGreat
open Go.RowKit Go.Shelf Go.Lib
attribute [local go_sem] Oper.semAt_some

set_option maxHeartbeats 2000000 in
theorem rvld_any (N : Nat) (h1 : 1 ≤ N) (h100 : N ≤ 100) (m : Nat) (hm : m < N) (t : Int) (w : World) : Calls Tryz.prog 21 #[.int .i64 (N : Int), .agg #[.int .i64 (m : Int), .int .i64 t, .int .i64 2]] w fun e w' => e = .returned (.bool (decide (0 ≤ t ∧ t ≤ 1048576))) ∧ Below w.heap.size w w' := by
  have n1 : (1 : Int) ≤ (N : Int) := by omega
  have n2 : (N : Int) ≤ 100 := by omega
  have o1 : (m : Int) < (N : Int) := by omega
  by_cases t1 : 0 ≤ t
  case neg =>
    rw [decide_eq_false (fun q => t1 q.1)]
    go_enter Tryz.func21, Tryz.ntmps21
    go_wp2
    go_ret
    exact ⟨rfl, (Below.refl _ w).alloc (Nat.le_refl _) _⟩
  by_cases t2 : t ≤ 1048576
  case neg =>
    rw [decide_eq_false (fun q => t2 q.2)]
    go_enter Tryz.func21, Tryz.ntmps21
    go_wp2
    go_ret
    exact ⟨rfl, (Below.refl _ w).alloc (Nat.le_refl _) _⟩
  rw [decide_eq_true ⟨t1, t2⟩]
  go_enter Tryz.func21, Tryz.ntmps21
  go_wp2
  go_ret
  exact ⟨rfl, (Below.refl _ w).alloc (Nat.le_refl _) _⟩
theorem rdoubts_no (n : Int) (hn : ¬ (1 ≤ n ∧ n ≤ 100)) (l : Value) (w : World) : Calls Tryz.prog 9 #[.int .i64 n, l] w fun e w' => e = .returned (.tuple #[.slice none 0 0, .int .i64 1]) ∧ w' = w := by
  by_cases h1 : n < 1
  · go_enter Tryz.func9, Tryz.ntmps9
    go_wp2
    go_ret2
    exact ⟨rfl, rfl⟩
  · have h2 : 100 < n := by omega
    go_enter Tryz.func9, Tryz.ntmps9
    go_wp2
    go_ret2
    exact ⟨rfl, rfl⟩
section
variable {P : Program} {md : Region.Mode} {ops : Array Oper} {Q : Exit → Act → World → Prop} {X0 : Array Value} {val : Nat → Value} {J : World → Prop} {i : Nat} {o : Oper}
theorem step_bld3 (hi : ops[i]? = some o) (hg : GOk md ops X0 val i o) (t : TypeId) (k0 k1 k2 : Nat) (x0 x1 x2 : Operand) (v0 v1 v2 : Value) (ho : o.op = .build t #[(k0, x0), (k1, x1), (k2, x2)]) (h0 : rdo md ops X0 val i o x0 = some v0) (h1 : rdo md ops X0 val i o x1 = some v1) (h2 : rdo md ops X0 val i o x2 = some v2) (hr : ∀ w, J w → (Instr.build t #[(k0, v0), (k1, v1), (k2, v2)]).run P w = .ok (val i) w) : StepAt P md ops Q X0 val J J i o :=
  step_of hi hg fun a w hJ hS => by
    unfold Oper.wp execOp
    simp only [ho, hS.eval h0, hS.eval h1, hS.eval h2, List.map_toArray, List.map_cons, List.map_nil, Sem.run_bind, hr w hJ, Result.andThen_ok, Sem.run_pure, Oper.upon_value]
    exact ⟨trivial, hJ⟩
end
theorem run_allocN3 (w : World) : (Instr.alloc 63 true (.tuple #[])).run Tryz.prog w = .ok (.pointer (some ⟨w.heap.size, 0, none⟩)) (w.alloc (.cells #[.int .i64 0, .int .i64 0, .int .i64 0] 63)) := by go_simp
theorem bld_nt (o t : Int) (w : World) : (Instr.build 63 #[(0, .int .i64 o), (1, .int .i64 t), (2, .int .i64 2)]).run Tryz.prog w = .ok (.agg #[.int .i64 o, .int .i64 t, .int .i64 2]) w := by go_simp
theorem sto_nt {W : World} {g : Nat} {a b c : Int} (h : NB W g a b c) (o t k : Int) : (Instr.storeAt 63 (.pointer (some ⟨g, 0, none⟩)) (.agg #[.int .i64 o, .int .i64 t, .int .i64 k])).run Tryz.prog W = .ok () (W.setRow g #[.int .i64 o, .int .i64 t, .int .i64 k]) :=
  Kel.run_store_in (P := Tryz.prog) W g 0 63 63 [.int .i64 a, .int .i64 b, .int .i64 c] [.int .i64 o, .int .i64 t, .int .i64 k] _ rfl h info_nt3 (Nat.le_refl 3) (by simp [Value.oneCell'])
theorem NB.row {W : World} {g : Nat} {a b c : Int} (h : NB W g a b c) (o t k : Int) : NB (W.setRow g #[.int .i64 o, .int .i64 t, .int .i64 k]) g o t k := setRow_heap _ _ _ _ _ _ h
/-- While a notice is laid in a new box. -/
structure JNb (Z : World) (o t : Int) (g : Nat) (x y : Bool) (W : World) : Prop where
  bl : Below Z.heap.size Z W
  box : x = true → Z.heap.size ≤ g ∧ NB W g (if y = true then o else 0) (if y = true then t else 0) (if y = true then 2 else 0)
theorem JNb.carry {Z W V : World} {o t : Int} {g : Nat} {x y : Bool} (h : JNb Z o t g x y W) (hb : Below W.heap.size W V) : JNb Z o t g x y V := ⟨h.bl.trans (hb.mono h.bl.size), fun e => ⟨(h.box e).1, (h.box e).2.carry hb⟩⟩
theorem JNb.new {Z W : World} {o t : Int} {g : Nat} {x : Bool} (h : JNb Z o t g x false W) : JNb Z o t W.heap.size true false (W.alloc (.cells #[.int .i64 0, .int .i64 0, .int .i64 0] 63)) := ⟨h.bl.alloc h.bl.size _, fun _ => ⟨h.bl.size, NB.new _ _ _ _⟩⟩
theorem row_bl {Z W : World} {g : Nat} {cs : Array Value} (h : Below Z.heap.size Z W) (hg : Z.heap.size ≤ g) : Below Z.heap.size Z (W.setRow g cs) := ⟨h.os, h.tape, h.output, by simpa [World.setRow] using h.size, fun k hk => (Go.setRow_other _ _ _ _ (by omega)).trans (h.block k hk)⟩
theorem JNb.store {Z W : World} {o t : Int} {g : Nat} {y : Bool} (h : JNb Z o t g true y W) : JNb Z o t g true true (W.setRow g #[.int .i64 o, .int .i64 t, .int .i64 2]) := ⟨row_bl h.bl (h.box rfl).1, fun _ => ⟨(h.box rfl).1, (h.box rfl).2.row _ _ _⟩⟩
set_option maxHeartbeats 8000000 in
set_option maxRecDepth 100000 in
theorem rdoubts_ok (N : Nat) (hN1 : 1 ≤ N) (hN : N ≤ 100) (ad : Option Addr) (cap : Nat) (l : List Ev) (w : World) (h : RdE w ad l) (hl : l.length ≤ 2000) : Calls Tryz.prog 9 #[.int .i64 (N : Int), .slice ad l.length cap] w fun e w' => ∃ v, e = .returned (.tuple #[v, .int .i64 0]) ∧ w'.ownsRow w.heap.size 63 3 v (dbO N l N).length (Kel.fc Kel.cNotices (dbO N l N)) ∧ Below w.heap.size w w' := by
  have hmx : Tryz.prog.follows .mixedOrders = true := by kernel_rfl
  obtain ⟨ic, zc, hic, hz0, hz1, hz2, hz3⟩ := Kel.kiNotices.iT
  have hix := idx_e
  have HR : Hid (RdE w ad l) := h
  have hN1i : ¬ (N : Int) < 1 := by omega
  have hN2i : ¬ (100 : Int) < (N : Int) := by omega
  clear h
  go_enter Tryz.func9, Tryz.ntmps9
  go_wp2
  go_loopw [6, 7, 8, 9, 10] (fun o i _ _ _ wz => ∃ m : Nat, i = .int .i64 (m : Int) ∧ m ≤ N ∧ wz.ownsRow w.heap.size 63 3 o (dbO N l m).length (Kel.fc Kel.cNotices (dbO N l m)) ∧ Below w.heap.size w wz) (fun _ i _ _ _ _ => N - Kel.vnat i)
  case atStart => exact ⟨0, rfl, Nat.zero_le _, by simpa [dbO, Kel.fc] using World.ownsRow_nil w w.heap.size 63 3, Below.refl _ _⟩
  case round =>
    obtain ⟨m, rfl, hm, hod, hbw⟩ := hrel
    obtain ⟨ao, co, eo, _⟩ := Kel.rowForm hod
    subst eo
    have hln := dbO_len N l m
    by_cases hmN : m < N
    case neg =>
      have hmi : ¬ (m : Int) < (N : Int) := by omega
      obtain rfl : m = N := by omega
      go_wp2
      go_ret2
      exact ⟨_, rfl, hod, hbw⟩
    have hmi : (m : Int) < (N : Int) := by omega
    obtain ⟨M, hM⟩ : ∃ M, (dbO N l m).length = M := ⟨_, rfl⟩
    rw [hM] at hod hln ⊢
    have HM : Hid ((dbO N l m).length = M) := hM
    clear hM
    obtain ⟨V, hV⟩ : ∃ V, wr.alloc (.cells #[.int .i64 0, .int .i64 0, .int .i64 0] 63) = V := ⟨_, rfl⟩
    obtain ⟨r1, r2, r3⟩ := box_nt wr (m : Int) (-1) 2 V hV
    obtain ⟨V2, hV2⟩ : ∃ V2, V.setRow wr.heap.size #[.int .i64 (m : Int), .int .i64 (-1), .int .i64 2] = V2 := ⟨_, rfl⟩
    rw [hV2] at r1 r2
    have HV2 : Hid (V.setRow wr.heap.size #[.int .i64 (m : Int), .int .i64 (-1), .int .i64 2] = V2) := hV2
    have HR3 : Hid (V.heap[wr.heap.size]? = _) := r3
    have hod2 := Kel.row_below hod r2
    have hbw2 : Below w.heap.size w V2 := hbw.trans (r2.mono hbw.size)
    have hoq : ∀ b, (Value.slice ao M co).ownBlock = some b → b < wr.heap.size := fun b e => (Kel.row_lt hod b e).2
    obtain ⟨q, hq⟩ : ∃ q, wr.heap.size = q := ⟨_, rfl⟩
    have hwq : w.heap.size ≤ q := by rw [← hq]; exact hbw.size
    rw [hq] at HV2 HR3 r1 hoq
    have HQ : Hid (wr.heap.size = q) := hq
    clear hV2 r3 r2 hod hbw
    go_wp2_with (refine wpList_store_row rfl 63 (.tmp 8) (.tmp 23) rfl q #[.int .i64 (m : Int), .int .i64 (-1), .int .i64 2] rfl rfl 63 _ HR3.out info_nt3 rfl (ntc_all _ _ _) ?_; rw [HV2.out])
    go_loopw [9, 10] (fun i _ wz => ∃ k : Nat, i = .int .i64 (k : Int) ∧ k ≤ l.length ∧ NB wz q (m : Int) (bT N m (l.take k)) 2 ∧ wz.ownsRow w.heap.size 63 3 (.slice ao M co) M (Kel.fc Kel.cNotices (dbO N l m)) ∧ Below w.heap.size w wz) (fun i _ _ => l.length - Kel.vnat i)
    case atStart => exact ⟨0, rfl, Nat.zero_le _, by simpa [bT] using r1, hod2, hbw2⟩
    case round =>
      clear r1 hod2 hbw2 HV2 HR3
      obtain ⟨k, rfl, hk, hnb, hod, hbw⟩ := hrel
      by_cases hkl : k < l.length
      case neg =>
        have hki : ¬ (k : Int) < (l.length : Int) := by omega
        obtain rfl : k = l.length := by omega
        rw [List.take_length] at hnb
        have hbt := bT_ok N m l l.length (Nat.le_refl _)
        rw [List.take_length] at hbt
        have c0 := hnb.c0
        have c1 := hnb.c1
        have c2 := hnb.c2
        by_cases hneg : bT N m l < 0
        · have hneg2 : ¬ 0 ≤ bT N m l := by omega
          go_wp2
          go_roundw
          case rel => exact ⟨m + 1, by simp, by omega, by rw [dbO_no hneg, HM.out]; exact hod, hbw⟩
          case measure => simp [Kel.vnat]; omega
        · have hneg2 : 0 ≤ bT N m l := by omega
          have hws := hbw.size
          go_wp2_with (at_builtin; refine wpList_append_own _ rfl _ _ 29 rfl w.heap.size 63 ic _ 3 24 Tryz.underlying29 hic hz0 hz1 hz2 hz3 (by decide) _ M (Kel.fc Kel.cNotices (dbO N l m)) rfl (hod.alloc _) ⟨wr.heap.size, 0, none⟩ 1 1 [_, _, _] rfl rfl (Kel.newNotices _ #[_, _, _] _) (by simp [Value.oneCell']) (by unfold maxLen; omega) (by omega) (by simp; omega) ?_; intro v' w2 hown' hgrow _)
          go_roundw
          case rel =>
            refine ⟨m + 1, by simp, by omega, ?_, (hbw.alloc hws _).grown hgrow (by simp; omega) (fun q e => (Kel.row_lt hod q e).1)⟩
            rw [dbO_yes hneg, List.length_append, HM.out, Kel.fc_append]
            exact hown'
          case measure => simp [Kel.vnat]; omega
      have hki : (k : Int) < (l.length : Int) := by omega
      have hne : l ≠ [] := fun e => by subst e; simp at hkl
      obtain ⟨bA, off, e1, hbl, hat⟩ := HR.out.at' hne
      subst e1
      obtain ⟨x, hx⟩ : ∃ x, l[k]? = some x := ⟨_, List.getElem?_eq_getElem hkl⟩
      have hrd : ∀ W, Below w.heap.size w W → ∀ i v, (ecA x)[i]? = some v → W.cell? ⟨bA, off + k * 15 + i, none⟩ = some v := fun W hb i v hv => (hb.cell (p := ⟨bA, _, none⟩) hbl).trans (hat k x hx i v hv)
      have HX : Hid (l[k]? = some x) := hx
      have HRD : Hid (∀ W, Below w.heap.size w W → ∀ i v, (ecA x)[i]? = some v → W.cell? ⟨bA, off + k * 15 + i, none⟩ = some v) := hrd
      clear hx hat hrd
      have hbt := bT_ok N m l k hk
      have hqlt : q < wr.heap.size := lt_at hnb
      go_wp2
      refine wp_region_any hmx ?_
      refine wpAny_tabG (G := Nat) (fun g i__ => ([(.slice (some ⟨bA, off, none⟩) l.length cap), (.int .i64 (k : Int)), (.pointer (some ⟨bA, off + k * 15, none⟩)), (.pointer (some ⟨bA, off + k * 15 + 5, none⟩)), (.int .i64 x.of), (.slice (some ⟨bA, off, none⟩) l.length cap), (.int .i64 (k : Int)), (.pointer (some ⟨bA, off + k * 15, none⟩)), (.pointer (some ⟨bA, off + k * 15 + 4, none⟩)), (.int .i64 x.ta), (.agg #[.int .i64 x.of, .int .i64 x.ta, .int .i64 2]), (.pointer (some ⟨g, 0, none⟩)), undef] : List Value).getD i__ undef) (fun g d W => JNb wr x.of x.ta g (d 11) (d 12) W) (by kernel_rfl) (0) ⟨(Below.refl _ _).drew, fun e => by cases e⟩ ?step1 ?fin1
      case step1 =>
        intro i o ho
        have hi : i < 13 := getElem?_lt ho
        match i, hi, ho with
        | 0, _, ho =>
          cases ho
          refine stepG_of (fun g d hdep => ?_)
          exact step_move rfl trivial _ rfl (by kernel_rfl)
        | 1, _, ho =>
          cases ho
          refine stepG_of (fun g d hdep => ?_)
          exact step_move rfl trivial _ rfl (by kernel_rfl)
        | 2, _, ho =>
          cases ho
          refine stepG_of (fun g d hdep => ?_)
          exact step_indexAddr rfl trivial _ _ _ _ _ rfl rfl rfl (fun w hw => idx_e bA off l.length cap k hkl w)
        | 3, _, ho =>
          cases ho
          refine stepG_of (fun g d hdep => ?_)
          exact step_fieldAddr rfl trivial _ _ _ _ rfl rfl (fun w hw => faE5 w _ _)
        | 4, _, ho =>
          cases ho
          refine stepG_of (fun g d hdep => ?_)
          exact step_load rfl trivial _ _ _ rfl rfl (fun v hw => load_in (HRD.out v (hbw.trans (hw.bl.mono hbw.size)) 5 _ rfl))
        | 5, _, ho =>
          cases ho
          refine stepG_of (fun g d hdep => ?_)
          exact step_move rfl trivial _ rfl (by kernel_rfl)
        | 6, _, ho =>
          cases ho
          refine stepG_of (fun g d hdep => ?_)
          exact step_move rfl trivial _ rfl (by kernel_rfl)
        | 7, _, ho =>
          cases ho
          refine stepG_of (fun g d hdep => ?_)
          exact step_indexAddr rfl trivial _ _ _ _ _ rfl rfl rfl (fun w hw => idx_e bA off l.length cap k hkl w)
        | 8, _, ho =>
          cases ho
          refine stepG_of (fun g d hdep => ?_)
          exact step_fieldAddr rfl trivial _ _ _ _ rfl rfl (fun w hw => faE4 w _ _)
        | 9, _, ho =>
          cases ho
          refine stepG_of (fun g d hdep => ?_)
          exact step_load rfl trivial _ _ _ rfl rfl (fun v hw => load_in (HRD.out v (hbw.trans (hw.bl.mono hbw.size)) 4 _ rfl))
        | 10, _, ho =>
          cases ho
          refine stepG_of (fun g d hdep => ?_)
          exact step_bld3 rfl trivial _ _ _ _ _ _ _ (.int .i64 x.of) (.int .i64 x.ta) (Go.Value.int Go.IntKind.i64 2) rfl rfl rfl rfl (fun w hw => bld_nt _ _ w)
        | 11, _, ho =>
          cases ho
          exact stepG_newT rfl rfl _ _ rfl run_allocN3 (fun g d V hJ hun hcl => by have h12 : d 12 = false := (by cases h : d 12 with | false => rfl | true => exact absurd (hcl 12 _ rfl h 11 (by kernel_rfl)) (by rw [hun]; simp)); have hJ' := hJ; rw [hun, h12] at hJ'; refine ⟨V.heap.size, (fun j hj => match j, hj with | 11, hj => (by rw [hj] at hun; cases hun) | 12, hj => absurd ((hcl 12 _ rfl hj 11 (by kernel_rfl))) (by rw [hun]; simp) | 0, _ => rfl | 1, _ => rfl | 2, _ => rfl | 3, _ => rfl | 4, _ => rfl | 5, _ => rfl | 6, _ => rfl | 7, _ => rfl | 8, _ => rfl | 9, _ => rfl | 10, _ => rfl | _ + 13, _ => rfl), rfl, ?_⟩; show JNb wr x.of x.ta _ true (d 12) _; rw [h12]; exact hJ'.new)
        | 12, _, ho =>
          cases ho
          exact stepG_store rfl rfl rfl _ _ _ (fun g => .pointer (some ⟨g, 0, none⟩)) (fun g => .agg #[.int .i64 x.of, .int .i64 x.ta, .int .i64 2]) rfl (fun g => by kernel_rfl) (fun g => by kernel_rfl) (fun g d V hJ hun hdep => by have h11 : d 11 = true := hdep 11 (by kernel_rfl); have hJ' := hJ; rw [h11] at hJ'; refine ⟨_, sto_nt (hJ'.box rfl).2 x.of x.ta 2, ?_⟩; show JNb wr x.of x.ta g (d 11) true _; rw [h11]; exact hJ'.store)
      intro g d W hall hW
      first | refine hK _ _ ?_ | refine (‹∀ (a : Act) (w : World), Code.wp Tryz.prog _ _ a w → _›) _ _ ?_ | skip
      simp only [finL, List.getD_cons_zero, List.getD_cons_succ, Nat.zero_add, Nat.reduceAdd, List.setIfInBounds_toArray, List.set_cons_zero, List.set_cons_succ]
      rw [hall 11 (by decide), hall 12 (by decide)] at hW
      obtain ⟨hgz, hxb⟩ := hW.box rfl
      simp only [if_true] at hxb
      have hbW : Below w.heap.size w W := hbw.trans (hW.bl.mono hbw.size)
      have hnb2 := hnb.carry hW.bl
      have hod2 := Kel.row_below hod hW.bl
      have d0 : W.cell? ⟨bA, off + k * 15, none⟩ = some (.int .i64 x.k) := HRD.out W hbW 0 _ rfl
      have d1 : W.cell? ⟨bA, off + k * 15 + 1, none⟩ = some (.int .i64 x.nd) := HRD.out W hbW 1 _ rfl
      have d5 : W.cell? ⟨bA, off + k * 15 + 5, none⟩ = some (.int .i64 x.of) := HRD.out W hbW 5 _ rfl
      have x0 := hxb.c0
      have x1 := hxb.c1
      have x2 := hxb.c2
      have c1 := hnb2.c1
      obtain ⟨BT, hBT⟩ : ∃ BT, bT N m (l.take k) = BT := ⟨_, rfl⟩
      rw [hBT] at hnb2 c1 hbt
      have HBT : Hid (bT N m (l.take k) = BT) := hBT
      clear hBT hall hnb hod hbw
      have HNB : Hid (NB W q (m : Int) BT 2) := hnb2
      have HOD : Hid (W.ownsRow w.heap.size 63 3 (.slice ao M co) M (Kel.fc Kel.cNotices (dbO N l m))) := hod2
      have HBW : Hid (Below w.heap.size w W) := hbW
      have HJW := hW
      clear hnb2 hod2 hbW hW
      have hgq : g ≠ q := by omega
      have hqg : q ≠ g := by omega
      by_cases k1 : x.k = 4
      case neg =>
        have k1b : (x.k == 4) = false := by simpa using k1
        have HNO : Hid (¬ (dC N x ∧ x.of = (m : Int) ∧ bT N m (l.take k) < x.ta)) := fun q => k1 q.1.1
        go_wp2
        go_roundw
        case rel => exact ⟨k + 1, by simp, by omega, by rw [bT_succ HX.out, bS_no HNO.out, HBT.out]; exact HNB.out, HOD.out, HBW.out⟩
        case measure => simp [Kel.vnat]; omega
      by_cases k2 : x.of = (m : Int)
      case neg =>
        have k2b : (x.of == (m : Int)) = false := by simpa using k2
        have HNO : Hid (¬ (dC N x ∧ x.of = (m : Int) ∧ bT N m (l.take k) < x.ta)) := fun q => k2 q.2.1
        go_wp2
        go_roundw
        case rel => exact ⟨k + 1, by simp, by omega, by rw [bT_succ HX.out, bS_no HNO.out, HBT.out]; exact HNB.out, HOD.out, HBW.out⟩
        case measure => simp [Kel.vnat]; omega
      have KX : Hid (x.of = (m : Int)) := k2
      obtain ⟨OF, hOF⟩ : ∃ OF, x.of = OF := ⟨_, rfl⟩
      rw [hOF] at d5 x0 hxb k2 ⊢
      subst k2
      clear hOF HJW
      by_cases k3 : 0 ≤ x.nd
      case neg =>
        have HNO : Hid (¬ (dC N x ∧ x.of = (m : Int) ∧ bT N m (l.take k) < x.ta)) := fun q => k3 q.1.2.1.1
        go_wp2
        go_roundw
        case rel => exact ⟨k + 1, by simp, by omega, by rw [bT_succ HX.out, bS_no HNO.out, HBT.out]; exact HNB.out, HOD.out, HBW.out⟩
        case measure => simp [Kel.vnat]; omega
      by_cases k4 : x.nd < (N : Int)
      case neg =>
        have HNO : Hid (¬ (dC N x ∧ x.of = (m : Int) ∧ bT N m (l.take k) < x.ta)) := fun q => k4 q.1.2.1.2
        go_wp2
        go_roundw
        case rel => exact ⟨k + 1, by simp, by omega, by rw [bT_succ HX.out, bS_no HNO.out, HBT.out]; exact HNB.out, HOD.out, HBW.out⟩
        case measure => simp [Kel.vnat]; omega
      have hrv := rvld_any N hN1 hN m hmN x.ta
      by_cases k5 : 0 ≤ x.ta ∧ x.ta ≤ 1048576
      case neg =>
        rw [decide_eq_false k5] at hrv
        have HNO : Hid (¬ (dC N x ∧ x.of = (m : Int) ∧ bT N m (l.take k) < x.ta)) := fun q => k5 q.1.2.2.2
        go_wp2_with (go_at_call 21; (with_reducible refine (hrv _).mono ?_); rintro e u ⟨rfl, hbu⟩; have y1 := (hxb.carry hbu).c1; have y0 := (hxb.carry hbu).c0; have y2 := (hxb.carry hbu).c2; have z1 := (HNB.out.carry hbu).c1; have HU : Hid (Below W.heap.size W u) := hbu)
        go_roundw
        case rel => exact ⟨k + 1, by simp, by omega, by rw [bT_succ HX.out, bS_no HNO.out, HBT.out]; exact HNB.out.carry HU.out, Kel.row_below HOD.out HU.out, HBW.out.trans (HU.out.mono HBW.out.size)⟩
        case measure => simp [Kel.vnat]; omega
      rw [decide_eq_true k5] at hrv
      by_cases k6 : BT < x.ta
      case neg =>
        have HNO : Hid (¬ (dC N x ∧ x.of = (m : Int) ∧ bT N m (l.take k) < x.ta)) := fun q => k6 (by rw [← HBT.out]; exact q.2.2)
        go_wp2_with (go_at_call 21; (with_reducible refine (hrv _).mono ?_); rintro e u ⟨rfl, hbu⟩; have y1 := (hxb.carry hbu).c1; have y0 := (hxb.carry hbu).c0; have y2 := (hxb.carry hbu).c2; have z1 := (HNB.out.carry hbu).c1; have HU : Hid (Below W.heap.size W u) := hbu)
        go_roundw
        case rel => exact ⟨k + 1, by simp, by omega, by rw [bT_succ HX.out, bS_no HNO.out, HBT.out]; exact HNB.out.carry HU.out, Kel.row_below HOD.out HU.out, HBW.out.trans (HU.out.mono HBW.out.size)⟩
        case measure => simp [Kel.vnat]; omega
      have HYES : Hid (dC N x) := ⟨k1, ⟨k3, k4⟩, ⟨by rw [KX.out]; omega, by rw [KX.out]; omega⟩, k5⟩
      go_wp2_with (first | (go_at_call 21; (with_reducible refine (hrv _).mono ?_); rintro e u ⟨rfl, hbu⟩; have y1 := (hxb.carry hbu).c1; have y0 := (hxb.carry hbu).c0; have y2 := (hxb.carry hbu).c2; have z1 := (HNB.out.carry hbu).c1; have HU : Hid (Below W.heap.size W u) := hbu) | (refine wpList_store_run rfl 63 (.tmp 8) (.tmp 85) rfl _ _ rfl rfl (sto_nt (HNB.out.carry HU.out) (m : Int) x.ta 2) ?_))
      go_roundw
      case rel =>
        have hb2 : Below w.heap.size w u := HBW.out.trans (HU.out.mono HBW.out.size)
        have hnq := HNB.out.carry HU.out
        refine ⟨k + 1, by simp, by omega, ?_, Kel.row_at (Kel.row_below HOD.out HU.out) (fun b e => Go.setRow_other _ _ _ _ (by have := hoq b e; omega)), ⟨hb2.os, hb2.tape, hb2.output, by simpa [World.setRow] using hb2.size, fun j hj => (Go.setRow_other _ _ _ _ (by omega)).trans (hb2.block j hj)⟩⟩
        rw [bT_succ HX.out, HBT.out, bS_yes HYES.out KX.out k6]
        exact hnq.row _ _ _
      case measure => simp [Kel.vnat]; omega
end Go.Proofs.YtgnhainfcfcodaaGreat
