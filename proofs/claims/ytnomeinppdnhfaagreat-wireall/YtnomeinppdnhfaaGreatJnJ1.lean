/- wire.reader.news: what it answers. -/
import Derived.Test.YtnomeinppdnhfaaGreatJnJ0
import Derived.Test.YtnomeinppdnhfaaGreatWri
import Derived.Test.YtnomeinppdnhfaaGreatSlg
import Derived.Test.YtnomeinppdnhfaaGreatWrd
namespace Go.Proofs.YtnomeinppdnhfaaGreat
open Go.RowKit Go.Shelf

theorem step_build3 {P : Program} {md : Region.Mode} {ops : Array Oper} {Q : Exit → Act → World → Prop} {X0 : Array Value} {val : Nat → Value} {J : World → Prop} {i : Nat} {o : Oper} (hi : ops[i]? = some o) (hg : GOk md ops X0 val i o) (t : TypeId) (a b c : Nat) (x y z : Operand) (p q r : Value) (ho : o.op = .build t #[(a, x), (b, y), (c, z)]) (hx : rdo md ops X0 val i o x = some p) (hy : rdo md ops X0 val i o y = some q) (hz : rdo md ops X0 val i o z = some r)
    (hr : ∀ w, J w → (Instr.build t #[(a, p), (b, q), (c, r)]).run P w = .ok (val i) w) : StepAt P md ops Q X0 val J J i o :=
  step_of hi hg fun a w hJ hS => by
    unfold Oper.wp execOp
    simp only [ho, hS.eval hx, hS.eval hy, hS.eval hz, List.map_toArray, List.map_cons, List.map_nil, Sem.run_bind, hr w hJ, Result.andThen_ok, Sem.run_pure, Oper.upon_value]
    exact ⟨trivial, hJ⟩
theorem run_allocN (w : World) : (Instr.alloc 80 true (.tuple #[])).run Tryz.prog w = .ok (.pointer (some ⟨w.heap.size, 0, none⟩)) (w.alloc (.cells #[.int .i64 0, .int .i64 0, .int .i64 0] 80)) := by go_simp
theorem stepG_newN {G : Type} {md : Region.Mode} {ops : Array Oper} {Q : Exit → Act → World → Prop} {X0 : Array Value} {val : G → Nat → Value} {J : G → (Nat → Bool) → World → Prop} {i : Nat} {o : Oper} (hi : ops[i]? = some o) (hg : o.guard = none) (ho : o.op = .alloc 80)
    (h : ∀ g d W, J g d W → d i = false → (∀ j oj, ops[j]? = some oj → d j = true → ∀ k, bindsOn md oj k = true → d k = true) → ∃ g', (∀ j, d j = true → val g' j = val g j) ∧ val g' i = .pointer (some ⟨W.heap.size, 0, none⟩) ∧ J g' (fun j => if j = i then true else d j) (W.alloc (.cells #[.int .i64 0, .int .i64 0, .int .i64 0] 80))) : StepG Tryz.prog md ops Q X0 val J i o := by
  intro g d a W hJ hun _ hcl _
  obtain ⟨g', h1, h2, h3⟩ := h g d W hJ hun hcl
  unfold wpOp
  rw [hi]
  simp only [Region.wanted, hg, if_true]
  refine .inl ?_
  unfold Oper.wp execOp
  simp only [ho, Sem.run_bind, run_allocN, Result.andThen_ok, Sem.run_pure, Oper.upon_value]
  exact ⟨g', h1, by rw [h2], h3⟩
/-- While a notice is laid in a new box. -/
structure JN (Z : World) (o t k : Int) (g : Nat) (x y : Bool) (W : World) : Prop where
  below : Below Z.heap.size Z W
  box : x = true → Z.heap.size ≤ g ∧ NB W g (if y = true then o else 0) (if y = true then t else 0) (if y = true then k else 0)
theorem JN.carry {Z W V : World} {o t k : Int} {g : Nat} {x y : Bool} (h : JN Z o t k g x y W) (hb : Below W.heap.size W V) : JN Z o t k g x y V := ⟨bel2 h.below hb, fun e => ⟨(h.box e).1, (h.box e).2.carry hb⟩⟩
theorem JN.new {Z W : World} {o t k : Int} {g : Nat} {x y : Bool} (h : JN Z o t k g x y W) (hy : y = false) : JN Z o t k W.heap.size true y (W.alloc (.cells #[.int .i64 0, .int .i64 0, .int .i64 0] 80)) := by
  subst hy
  exact ⟨h.below.alloc h.below.size _, fun _ => ⟨h.below.size, NB.new _ _ _ _⟩⟩
theorem JN.store {Z W : World} {o t k : Int} {g : Nat} {y : Bool} (h : JN Z o t k g true y W) : (Instr.storeAt 80 (.pointer (some ⟨g, 0, none⟩)) (nt o t k)).run Tryz.prog W = .ok () (W3 W g o t k) ∧ JN Z o t k g true true (W3 W g o t k) :=
  ⟨store_nt (h.box rfl).2 o t k, below3 h.below (h.box rfl).1 _ _ _, fun _ => ⟨(h.box rfl).1, by simpa using (h.box rfl).2.set o t k⟩⟩
theorem slice_2 (b off len cap : Nat) (h1 : 2 < len) (h2 : len ≤ cap) (W : World) : (Instr.sliceAt 46 (.slice (some ⟨b, off, none⟩) len cap) (some (.int .i64 2)) none none).run Tryz.prog W = .ok (.slice (some ⟨b, off + 2, none⟩) (len - 2) (cap - 2)) W := by
  have q1 : (2 : Int) ≤ (len : Int) := by omega
  have q2 : (len : Int) ≤ (cap : Int) := by omega
  go_simp
  omega
theorem idx_b (b off len cap k : Nat) (h : k < len) (W : World) : (Instr.indexAt 46 (.slice (some ⟨b, off, none⟩) len cap) (.int .i64 (k : Int))).run Tryz.prog W = .ok (.pointer (some ⟨b, off + k, none⟩)) W := by
  have q1 : (k : Int) < (len : Int) := by omega
  go_simp
theorem load_b {W : World} {b j x : Nat} (h : W.cell? ⟨b, j, none⟩ = some (.int .u8 (x : Int))) : (Instr.loadAt 5 (.pointer (some ⟨b, j, none⟩))).run Tryz.prog W = .ok (.int .u8 (x : Int)) W := by
  go_simp
theorem build_nt (o t k : Int) (W : World) : (Instr.build 80 #[(0, .int .i64 o), (2, .int .i64 k), (1, .int .i64 t)]).run Tryz.prog W = .ok (nt o t k) W := by
  unfold nt
  go_simp
theorem ownsRow_kb {w w' : World} {p base : Nat} {e : TypeId} {size : Nat} {v : Value} {n : Nat} {xs : List Value} (h : w.ownsRow base e size v n xs) (hk : Kb p w w') (hne : ∀ g, v.ownBlock = some g → g ≠ p) : w'.ownsRow base e size v n xs := by
  obtain ⟨h1, h2⟩ := h
  refine ⟨h1, ?_⟩
  rcases h2 with h2 | ⟨g, cap, cur, h3, h4, h5, h6⟩
  · exact .inl h2
  · exact .inr ⟨g, cap, cur, h3, h4, (hk.2 g (hne g (by rw [h3]; rfl)) (lt_at h5)).trans h5, h6⟩
theorem Kb.grow {p : Nat} {w u u' : World} {o : Obj} {row : Option Nat} (h : Kb p w u) (hp : p < w.heap.size) (hg : (u.alloc o).grownBy u' row) (hr : ∀ k, row = some k → w.heap.size ≤ k) : Kb p w u' := by
  have hs := h.1.size
  refine ⟨(h.1.alloc (by omega) o).grown hg (by simp; omega) (fun k e => by have := hr k e; omega), fun b h1 h2 => ?_⟩
  rw [hg.block b (by simp; omega) (fun e => by have := hr b e.symm; omega), Below.heap_alloc u o b (by omega)]
  exact h.2 b h1 h2
theorem Rdr.grow {u u' : World} {p : Nat} {ad : Option Addr} {cap : Nat} {bs : List Nat} {i : Nat} {o : Obj} {row : Option Nat} (h : Rdr u p ad cap bs i) (hg : (u.alloc o).grownBy u' row) (hr : ∀ k, row = some k → p < k) : Rdr u' p ad cap bs i := by
  have hp := h.lt
  have key : ∀ b, b ≤ p → u'.heap[b]? = u.heap[b]? := fun b hb => by
    rw [hg.block b (by simp; omega) (fun e => by have := hr b e.symm; omega), Below.heap_alloc u o b (by omega)]
  refine ⟨(key p (Nat.le_refl _)).trans h.box, fun hne => ?_, h.le, h.byt, h.ln, h.cp⟩
  obtain ⟨b, off, h1, h2, h3⟩ := h.rd hne
  exact ⟨b, off, h1, h2, h3.carry (key b (Nat.le_of_lt h2))⟩
/-- What news answers. -/
def NwO (p : Nat) (ad : Option Addr) (cap : Nat) (bs : List Nat) (R : Except Int (List (Int × Int × Int) × Nat)) (w : World) (e : Ending) (w' : World) : Prop :=
  match R with
  | .error er => e = .panicked (rfu er) ∧ Kb p w w'
  | .ok (l, j) => ∃ v, e = .returned v ∧ w'.ownsRow w.heap.size 80 3 v l.length (fl l) ∧ Rdr w' p ad cap bs j ∧ Kb p w w'
theorem nwo_err {p : Nat} {ad : Option Addr} {cap : Nat} {bs : List Nat} {R : Except Int (List (Int × Int × Int) × Nat)} {w w' : World} {er : Int} (h : R = .error er) (hk : Kb p w w') : NwO p ad cap bs R w (.panicked (rfu er)) w' := by
  subst h
  exact ⟨rfl, hk⟩
theorem getD_byt {l : List Nat} (h : Byt l) (i : Nat) : l.getD i 0 < 256 := by
  rw [List.getD_eq_getElem?_getD]
  cases hx : l[i]? with
  | none => exact (by decide : (0 : Nat) < 256)
  | some x => exact byt_get8 h hx
theorem getD_some {l : List Nat} {i : Nat} (h : i < l.length) : l[i]? = some (l.getD i 0) := by
  rw [List.getD_eq_getElem?_getD, List.getElem?_eq_getElem h]
  rfl
theorem sub_get {bs : List Nat} {i m k : Nat} (h : i + m ≤ bs.length) (hk : k < m) : ((bs.drop i).take m)[k]? = some (bs.getD (i + k) 0) := by
  rw [List.getElem?_take, if_pos hk, List.getElem?_drop]
  exact getD_some (by omega)
theorem sub_sub (bs : List Nat) (i : Nat) : (((bs.drop i).take 5).drop 2).take 3 = (bs.drop (i + 2)).take 3 := by
  rw [List.drop_take, List.drop_drop, List.take_take]
  rfl
set_option maxHeartbeats 8000000 in
set_option maxRecDepth 100000 in
theorem news_any {w : World} {p : Nat} {ad : Option Addr} {cap : Nat} {bs : List Nat} {i : Nat} (h : Rdr w p ad cap bs i) (n : Nat) (hn : n ≤ 100) : Calls Tryz.prog 90 #[.pointer (some ⟨p, 0, none⟩), .int .i64 (n : Int)] w (NwO p ad cap bs (rdW n bs i) w) := by
  have hmx : Tryz.prog.follows .mixedOrders = true := by kernel_rfl
  obtain ⟨R, hR⟩ : ∃ R, rdW n bs i = R := ⟨_, rfl⟩
  rw [hR]
  by_cases h1 : bs.length < i + 1
  · rw [rdW, if_pos h1] at hR
    have HR : Hid (R = .error 76) := hR.symm
    have hnu : Calls Tryz.prog 82 #[.pointer (some ⟨p, 0, none⟩), .int .i64 1] w _ := number_no h 1 h1
    have hp := h.lt
    clear hR
    go_enter Tryz.func90, Tryz.ntmps90
    go_wp2_with (go_at_call 82; (with_reducible refine hnu.mono ?_); rintro e w1 ⟨rfl, hb⟩)
    exact ⟨rfl, nwo_err HR.out (Kb.below hb (Nat.le_of_lt hp))⟩
  rw [rdW, if_neg h1] at hR
  have hnu : Calls Tryz.prog 82 #[.pointer (some ⟨p, 0, none⟩), .int .i64 1] w fun e w' => e = .returned (.int .i64 (nm bs i 1 : Nat)) ∧ Rdr w' p ad cap bs (i + 1) ∧ Kb p w w' := number_ok h 1 (by decide) (by decide) (by omega)
  have hc256 : nm bs i 1 < 256 := by
    have := valB_lt _ ((h.byt.drop i).take 1)
    rw [sub_len (by omega)] at this
    exact this
  generalize nm bs i 1 = cnt at *
  by_cases h2 : n < cnt
  · rw [if_pos h2] at hR
    have HR : Hid (R = .error 75) := hR.symm
    have hre := refuse_yes 75
    have h2i : (n : Int) < (cnt : Int) := by omega
    clear hR
    go_enter Tryz.func90, Tryz.ntmps90
    go_wp2_with (first | (go_at_call 82; (with_reducible refine hnu.mono ?_); rintro e w1 ⟨rfl, hr1, hk1⟩) | (go_at_call 81; (with_reducible refine (hre _).mono ?_); rintro e w2 ⟨rfl, hu⟩; rw [hu]; clear hu w2))
    exact ⟨rfl, nwo_err HR.out hk1⟩
  rw [if_neg h2] at hR
  have h2i : ¬ (n : Int) < (cnt : Int) := by omega
  have hre0 := refuse_no 75
  have HR : Hid (rdK n bs cnt (-1) (i + 1) = R) := hR
  clear hR
  go_enter Tryz.func90, Tryz.ntmps90
  go_wp2_with (first | (go_at_call 82; (with_reducible refine hnu.mono ?_); rintro e w1 ⟨rfl, hr1, hk1⟩) | (go_at_call 81; (with_reducible refine (hre0 _).mono ?_); rintro e w2 ⟨rfl, hu⟩; rw [hu]; clear hu w2))
  clear hnu
  go_loopw [6, 7, 17] (fun v a c wz => ∃ (k : Nat) (L : List (Int × Int × Int)) (A : Int) (j : Nat), c = .int .i64 k ∧ a = .int .i64 A ∧ k ≤ cnt ∧ L.length = k ∧ wz.ownsRow w.heap.size 80 3 v k (fl L) ∧ Rdr wz p ad cap bs j ∧ Kb p w wz ∧ Hid (glu L (rdK n bs (cnt - k) A j) = R)) (fun _ _ c _ => cnt - vnatW c)
  case atStart => exact ⟨0, [], -1, i + 1, rfl, rfl, Nat.zero_le _, rfl, World.ownsRow_nil _ _ _ _, hr1, hk1, by show glu [] _ = R; rw [glu_nil]; exact HR.out⟩
  case round =>
    obtain ⟨k, L, A, j, rfl, rfl, hk, hL, hrow, hr, hkb, HK⟩ := hrel
    clear hr1 hk1 HR
    by_cases hkl : k < cnt
    · have hki : (k : Int) < (cnt : Int) := by omega
      obtain ⟨m, hm⟩ : ∃ m, cnt - k = m + 1 := ⟨cnt - k - 1, by omega⟩
      have HK2 := HK.out
      rw [hm] at HK2
      clear HK
      by_cases hs : bs.length < j + 5
      · rw [rdK_short hs] at HK2
        have HF : Hid (R = .error 76) := HK2.symm
        have hta : Calls Tryz.prog 87 #[.pointer (some ⟨p, 0, none⟩), .int .i64 5] wr _ := take_no hr 5 hs
        have hp := hr.lt
        clear HK2
        go_wp2_with (go_at_call 87; (with_reducible refine hta.mono ?_); rintro e w1 ⟨rfl, hb⟩)
        exact ⟨rfl, nwo_err HF.out (hkb.trans (Kb.below hb (Nat.le_of_lt hp)))⟩
      · have hta : Calls Tryz.prog 87 #[.pointer (some ⟨p, 0, none⟩), .int .i64 5] wr fun e w' => ∃ a c, e = .returned (.slice a 5 c) ∧ 5 ≤ c ∧ RdB w' a ((bs.drop j).take 5) ∧ Rdr w' p ad cap bs (j + 5) ∧ Kb p wr w' := take_ok hr 5 (by decide) (by omega)
        have hj5 : j + 5 ≤ bs.length := by omega
        have g0 := sub_get (k := 0) hj5 (by decide)
        have g1 := sub_get (k := 1) hj5 (by decide)
        have b0 := getD_byt hr.byt j
        have b1 := getD_byt hr.byt (j + 1)
        rw [Nat.add_zero] at g0
        have hne5 : ((bs.drop j).take 5) ≠ [] := fun e => by rw [e] at g0; simp at g0
        have hnu : ∀ (a : Addr) (c : Nat) (W : World), RdB W (some a) ((bs.drop (j + 2)).take 3) → Calls Tryz.prog 116 #[.slice (some a) 3 c] W fun e w' => e = .returned (.int .i64 (nm bs (j + 2) 3 : Nat)) ∧ w' = W := fun a c W hr2 => by
          have := numberOf_any (some a) c ((bs.drop (j + 2)).take 3) W hr2 ((hr.byt.drop _).take _) (by rw [sub_len (by omega)]; decide)
          rw [sub_len (by omega)] at this
          exact this
        have HSS : Hid ((((bs.drop j).take 5).drop 2).take 3 = (bs.drop (j + 2)).take 3) := sub_sub bs j
        have HX : Hid (∀ B, (vl n (bs.getD j 0 : Nat) (nm bs (j + 2) 3 : Nat) (bs.getD (j + 1) 0 : Nat) && decide (A < ((bs.getD j 0 : Nat) : Int))) = B → R = if B = false then .error 75 else glu (L ++ [(((bs.getD j 0 : Nat) : Int), ((nm bs (j + 2) 3 : Nat) : Int), ((bs.getD (j + 1) 0 : Nat) : Int))]) (rdK n bs m (bs.getD j 0 : Nat) (j + 5))) := by
          intro B hB
          cases B with
          | false => rw [rdK_bad hs hB] at HK2; rw [if_pos rfl]; exact HK2.symm
          | true => rw [rdK_next hs (by rw [hB]; decide), glu_glu] at HK2; rw [if_neg (by decide)]; exact HK2.symm
        clear HK2
        generalize nm bs (j + 2) 3 = T at *
        generalize bs.getD j 0 = O at *
        generalize bs.getD (j + 1) 0 = Q at *
        have hva := valid_any (n : Int) (O : Int) (T : Int) (Q : Int)
        go_wp2_with (go_at_call 87; (with_reducible refine hta.mono ?_); rintro e V ⟨a5, c5, rfl, hc5, hb5, hrV, hkV⟩)
        obtain ⟨b, off, rfl, hbV, hat⟩ := hb5 hne5
        have x0 := hat 0 _ g0
        have x1 := hat 1 _ g1
        rw [Nat.add_zero] at x0
        have hrowV : V.ownsRow w.heap.size 80 3 _ k (fl L) := ownsRow_kb hrow hkV (fun g hg => by have := own_block hrow g hg; have := h.lt; omega)
        have hat3 := hat.sub 2 3
        rw [HSS.out] at hat3
        rename_i Q0 K0 hK
        refine wp_region_any hmx ?_
        refine wpAny_tabG (G := (Nat)) (fun g i__ => ([(.slice (some ⟨b, off, none⟩) 5 c5), (.pointer (some ⟨b, off, none⟩)), (.int .u8 (O : Int)), (.int .i64 (O : Int)), (.slice (some ⟨b, off, none⟩) 5 c5), (.pointer (some ⟨b, off + 1, none⟩)), (.int .u8 (Q : Int)), (.int .i64 (Q : Int)), (.slice (some ⟨b, off, none⟩) 5 c5), (.slice (some ⟨b, off + 2, none⟩) 3 (c5 - 2)), (.int .i64 (T : Int)), (nt O T Q), (.pointer (some ⟨g, 0, none⟩)), undef] : List Value).getD i__ undef) (fun g d W => JN V O T Q g (d 12) (d 13) W) (by kernel_rfl) (0) ⟨(Below.refl _ _).drew, fun e => by cases e⟩ ?step1 ?fin1
        case step1 =>
          intro i o ho
          have hi : i < 14 := getElem?_lt ho
          match i, hi, ho with
          | 0, _, ho =>
            cases ho
            refine stepG_of (fun g d hdep => ?_)
            exact step_move rfl trivial _ rfl (by kernel_rfl)
          | 1, _, ho =>
            cases ho
            refine stepG_of (fun g d hdep => ?_)
            exact step_indexAddr rfl trivial _ _ _ _ _ rfl rfl rfl (fun w hw => idx_b b off 5 c5 0 (by decide) w)
          | 2, _, ho =>
            cases ho
            refine stepG_of (fun g d hdep => ?_)
            exact step_load rfl trivial _ _ _ rfl rfl (fun w hw => load_b ((hw.below.cell (p := ⟨b, off, none⟩) hbV).trans x0))
          | 3, _, ho =>
            cases ho
            refine stepG_of (fun g d hdep => ?_)
            exact step_convert rfl trivial _ _ _ _ rfl rfl (fun w hw => conv_int .i64 _ (by rw [Tryz.underlying5]; rfl) Tryz.underlying3 (by rw [IntKind.wrap_i64]; omega) w)
          | 4, _, ho =>
            cases ho
            refine stepG_of (fun g d hdep => ?_)
            exact step_move rfl trivial _ rfl (by kernel_rfl)
          | 5, _, ho =>
            cases ho
            refine stepG_of (fun g d hdep => ?_)
            exact step_indexAddr rfl trivial _ _ _ _ _ rfl rfl rfl (fun w hw => idx_b b off 5 c5 1 (by decide) w)
          | 6, _, ho =>
            cases ho
            refine stepG_of (fun g d hdep => ?_)
            exact step_load rfl trivial _ _ _ rfl rfl (fun w hw => load_b ((hw.below.cell (p := ⟨b, off + 1, none⟩) hbV).trans x1))
          | 7, _, ho =>
            cases ho
            refine stepG_of (fun g d hdep => ?_)
            exact step_convert rfl trivial _ _ _ _ rfl rfl (fun w hw => conv_int .i64 _ (by rw [Tryz.underlying5]; rfl) Tryz.underlying3 (by rw [IntKind.wrap_i64]; omega) w)
          | 8, _, ho =>
            cases ho
            refine stepG_of (fun g d hdep => ?_)
            exact step_move rfl trivial _ rfl (by kernel_rfl)
          | 9, _, ho =>
            cases ho
            refine stepG_of (fun g d hdep => ?_)
            exact step_slice rfl trivial _ _ _ _ _ (some (Go.Value.int Go.IntKind.i64 2)) none rfl rfl rfl rfl (fun w hw => slice_2 b off 5 c5 (by decide) hc5 w)
          | 10, _, ho =>
            cases ho
            refine stepG_of (fun g d hdep => ?_)
            exact step_call rfl trivial 116 _ _ [(.slice (some ⟨b, off + 2, none⟩) 3 (c5 - 2))] rfl (by kernel_rfl) (enters_of Tryz.func116 (by kernel_rfl) rfl) (fun w hw => (hnu _ _ w (fun _ => ⟨b, off + 2, rfl, Nat.lt_of_lt_of_le hbV hw.below.size, hat3.carry (hw.below.block b hbV)⟩)).mono (by rintro e w' ⟨rfl, rfl⟩; exact ⟨rfl, hw⟩))
          | 11, _, ho =>
            cases ho
            exact stepG_of (fun g d hdep => step_build3 rfl trivial _ _ _ _ _ _ _ (.int .i64 (O : Int)) (.int .i64 (Q : Int)) (.int .i64 (T : Int)) rfl (by kernel_rfl) (by kernel_rfl) (by kernel_rfl) (fun w hw => build_nt O T Q w))
          | 12, _, ho =>
            cases ho
            exact stepG_newN rfl rfl rfl (fun g d W' hJ hun hcl => ⟨W'.heap.size, (fun j hj => match j, hj with | 12, hj => (by rw [hj] at hun; cases hun)  | 0, _ => rfl | 1, _ => rfl | 2, _ => rfl | 3, _ => rfl | 4, _ => rfl | 5, _ => rfl | 6, _ => rfl | 7, _ => rfl | 8, _ => rfl | 9, _ => rfl | 10, _ => rfl | 11, _ => rfl | 13, _ => rfl | _ + 14, _ => rfl), rfl, hJ.new (by cases h : d 13 with | false => rfl | true => exact absurd (hcl 13 _ rfl h 12 (by kernel_rfl)) (by rw [hun]; simp))⟩)
          | 13, _, ho =>
            cases ho
            refine stepG_of (fun g d hdep => ?_)
            exact step_store rfl trivial rfl _ _ _ _ _ rfl rfl rfl (fun w' hw => by have h12 := hdep 12 (by kernel_rfl); rw [h12] at hw; exact ⟨_, hw.store.1, by show JN V O T Q g (d 12) true _; rw [h12]; exact hw.store.2⟩)
        intro g d W hall hW
        first | refine hK _ _ ?_ | refine (‹∀ (a : Act) (w : World), Code.wp Tryz.prog _ _ a w → _›) _ _ ?_ | skip
        simp only [finL, List.getD_cons_zero, List.getD_cons_succ, Nat.zero_add, Nat.reduceAdd, List.setIfInBounds_toArray, List.set_cons_zero, List.set_cons_succ]
        rw [hall 12 (by decide), hall 13 (by decide)] at hW
        clear hK hall
        have hbW := hW.below
        have hnW : NB W g O T Q := by simpa using (hW.box rfl).2
        have hgV := (hW.box rfl).1
        clear hW
        have hrowW := row_below hrowV hbW
        have hol := own_lt hrowV
        have hrW := hrV.carry hbW
        have hkW := (hkb.trans hkV).trans (Kb.below hbW (Nat.le_of_lt hrV.lt))
        have hre := refuse_yes 75
        have n0 := hnW.c0
        have n1 := hnW.c1
        have n2 := hnW.c2
        unfold nt at hva
        clear hta hnu hrow hr hkb hrV hkV hrowV hat hat3 x0 x1 hb5
        cases hB : vl (n : Int) (O : Int) (T : Int) (Q : Int) with
        | false =>
          rw [hB] at hva
          have HF : Hid (R = .error 75) := by have := HX.out false (by rw [hB]; rfl); rwa [if_pos rfl] at this
          clear HX hB
          go_wp2_with (first | (go_at_call 118; (with_reducible refine (hva _).mono ?_); rintro e u1 ⟨rfl, hb1⟩; have hn1 : NB u1 g O T Q := hnW.carry hb1; have m0 := hn1.c0; have m1 := hn1.c1; have m2 := hn1.c2) | (go_at_call 81; (with_reducible refine (hre _).mono ?_); rintro e u2 ⟨rfl, hu⟩; rw [hu]; clear hu u2))
          exact ⟨rfl, nwo_err HF.out (hkW.trans (Kb.below hb1 (Nat.le_of_lt hrW.lt)))⟩
        | true =>
          rw [hB] at hva
          by_cases hA : A < (O : Int)
          case neg =>
            have HF : Hid (R = .error 75) := by have := HX.out false (by rw [hB, decide_eq_false hA]; rfl); rwa [if_pos rfl] at this
            have hA' : (O : Int) ≤ A := by omega
            clear HX hB
            go_wp2_with (first | (go_at_call 118; (with_reducible refine (hva _).mono ?_); rintro e u1 ⟨rfl, hb1⟩; have hn1 : NB u1 g O T Q := hnW.carry hb1; have m0 := hn1.c0; have m1 := hn1.c1; have m2 := hn1.c2) | (go_at_call 81; (with_reducible refine (hre _).mono ?_); rintro e u2 ⟨rfl, hu⟩; rw [hu]; clear hu u2))
            exact ⟨rfl, nwo_err HF.out (hkW.trans (Kb.below hb1 (Nat.le_of_lt hrW.lt)))⟩
          have HF : Hid (R = glu (L ++ [((O : Int), (T : Int), (Q : Int))]) (rdK n bs m (O : Int) (j + 5))) := by have := HX.out true (by rw [hB, decide_eq_true hA]; rfl); rwa [if_neg (by decide)] at this
          have hdc : decide ((O : Int) ≤ A) = false := decide_eq_false (by omega)
          have hwl := h.lt
          have hbs : w.heap.size ≤ W.heap.size := Nat.le_trans hkW.1.size (Nat.le_refl _)
          obtain ⟨ic, hic, hz0, hz1, hz2⟩ := info_partsN
          clear HX hB
          go_wp2_with (first | (go_at_call 118; (with_reducible refine (hva _).mono ?_); rintro e u1 ⟨rfl, hb1⟩; have hn1 : NB u1 g O T Q := hnW.carry hb1; have m0 := hn1.c0; have m1 := hn1.c1; have m2 := hn1.c2) | (go_at_call 81; (with_reducible refine (hre0 _).mono ?_); rintro e u2 ⟨rfl, hu⟩; rw [hu]; clear hu u2) | (at_builtin; refine wpList_append_own_at _ rfl _ _ 42 rfl w.heap.size 80 ic _ 3 24 Tryz.underlying42 hic hz0 hz1 hz2 rfl (by decide) _ k (fl L) rfl (World.ownsRow.alloc (row_below hrowW hb1) _) ⟨u1.heap.size, 0, none⟩ 1 1 [_, _, _] rfl rfl (rowN _ #[_, _, _] _) (by simp [Value.oneCell']) (by unfold maxLen; omega) (by omega) (by have := hb1.size; simp; omega) ?_; intro v' w2 hown' hgrow _ hob; have hn2 : NB w2 g O T Q := (hgrow.block _ (by have := hn1.lt; simp; omega) (fun e => by have := hol _ e.symm; omega)).trans (old_at hn1); have m3 := hn2.c0))
          go_roundw
          case rel =>
            refine ⟨k + 1, L ++ [((O : Int), (T : Int), (Q : Int))], (O : Int), j + 5, by simp, rfl, by omega, by simp [hL], ?_, ?_, ?_, ?_⟩
            · rw [fl_append]
              exact hown'
            · exact (hrW.carry hb1).grow hgrow (fun _ e => by have := own_block hrowW _ e; omega)
            · exact (hkW.trans (Kb.below hb1 (Nat.le_of_lt hrW.lt))).grow hwl hgrow (fun _ e => own_block hrowW _ e)
            · show glu _ _ = R
              rw [HF.out, show cnt - (k + 1) = m by omega]
          case measure => simp [vnatW]; omega
    · have hkk : k = cnt := by omega
      subst hkk
      have hki : ¬ ((k : Int) < (k : Int)) := by omega
      have HE : Hid (R = .ok (L, j)) := by
        have := HK.out
        rw [Nat.sub_self, rdK, glu, List.append_nil] at this
        exact this.symm
      clear HK
      go_wp2
      go_ret
      rw [HE.out]
      exact ⟨_, rfl, hL ▸ hrow, hr, hkb⟩
end Go.Proofs.YtnomeinppdnhfaaGreat
namespace Go.Proofs.YtnomeinppdnhfaaGreat
open Go.RowKit Go.Shelf

theorem FB.thaw {W : World} {b kd : Nat} {fr rd : Int} {N : Nat} {v : Value} (h : FB W b kd fr rd N v) (j : Nat) : W.frozen? ⟨b, j, none⟩ = false := thaw_at h j
theorem FB.set0 {W : World} {b kd : Nat} {fr rd : Int} {N : Nat} {v : Value} (h : FB W b kd fr rd N v) (x : Nat) : FB (W.setCell ⟨b, 0, none⟩ (.int .i64 (x : Int))) b x fr rd N v := (set_get 0 _ h).trans (by simp [fcs])
theorem FB.set1 {W : World} {b kd : Nat} {fr rd : Int} {N : Nat} {v : Value} (h : FB W b kd fr rd N v) (x : Int) : FB (W.setCell ⟨b, 1, none⟩ (.int .i64 x)) b kd x rd N v := (set_get 1 _ h).trans (by simp [fcs])
theorem FB.set2 {W : World} {b kd : Nat} {fr rd : Int} {N : Nat} {v : Value} (h : FB W b kd fr rd N v) (x : Int) : FB (W.setCell ⟨b, 2, none⟩ (.int .i64 x)) b kd fr x N v := (set_get 2 _ h).trans (by simp [fcs])
def W4 (W : World) (b M : Nat) : World := (((W.setCell ⟨b, 3, none⟩ (.int .u32 (wd M 0 : Nat))).setCell ⟨b, 4, none⟩ (.int .u32 (wd M 1 : Nat))).setCell ⟨b, 5, none⟩ (.int .u32 (wd M 2 : Nat))).setCell ⟨b, 6, none⟩ (.int .u32 (wd M 3 : Nat))
theorem FB.set3 {W : World} {b kd : Nat} {fr rd : Int} {N : Nat} {v : Value} (h : FB W b kd fr rd N v) (M : Nat) : FB (W4 W b M) b kd fr rd M v := (set_get 6 _ (set_get 5 _ (set_get 4 _ (set_get 3 _ h)))).trans (by simp [fcs])
theorem FB.set7 {W : World} {b kd : Nat} {fr rd : Int} {N : Nat} {v : Value} (h : FB W b kd fr rd N v) (x : Value) : FB (W.setCell ⟨b, 7, none⟩ x) b kd fr rd N x := (set_get 7 _ h).trans (by simp [fcs])
def W8 (W : World) (b kd : Nat) (fr rd : Int) (N : Nat) (v : Value) : World := ((((((((W.setCell ⟨b, 0, none⟩ (.int .i64 (kd : Int))).setCell ⟨b, 1, none⟩ (.int .i64 fr)).setCell ⟨b, 2, none⟩ (.int .i64 rd)).setCell ⟨b, 3, none⟩ (.int .u32 (wd N 0 : Nat))).setCell ⟨b, 4, none⟩ (.int .u32 (wd N 1 : Nat))).setCell ⟨b, 5, none⟩ (.int .u32 (wd N 2 : Nat))).setCell ⟨b, 6, none⟩ (.int .u32 (wd N 3 : Nat)))).setCell ⟨b, 7, none⟩ v
theorem FB.set8 {W : World} {b kd : Nat} {fr rd : Int} {N : Nat} {v : Value} (h : FB W b kd fr rd N v) (kd' : Nat) (fr' rd' : Int) (N' : Nat) (v' : Value) : FB (W8 W b kd' fr' rd' N' v') b kd' fr' rd' N' v' := ((((h.set0 kd').set1 fr').set2 rd').set3 N').set7 v'
theorem Rdr.other {W : World} {p : Nat} {ad : Option Addr} {cap : Nat} {bs : List Nat} {i : Nat} (h : Rdr W p ad cap bs i) {b : Nat} (hb : p < b) (j : Nat) (v : Value) : Rdr (W.setCell ⟨b, j, none⟩ v) p ad cap bs i := by
  refine ⟨(Below.heap_setCell _ _ _ _ (Nat.ne_of_lt hb)).trans h.box, fun hne => ?_, h.le, h.byt, h.ln, h.cp⟩
  obtain ⟨x, off, h1, h2, h3⟩ := h.rd hne
  exact ⟨x, off, h1, h2, h3.carry (Below.heap_setCell _ _ _ _ (Nat.ne_of_lt (Nat.lt_trans h2 hb)))⟩
theorem Kb.other {p : Nat} {w W : World} (h : Kb p w W) {b : Nat} (hp : p < b) (hb : w.heap.size ≤ b) (j : Nat) (v : Value) : Kb p w (W.setCell ⟨b, j, none⟩ v) :=
  ⟨Below.setCell (p := ⟨b, j, none⟩) h.1 (Nat.le_of_lt hp) v, fun x h1 h2 => (Below.heap_setCell _ _ _ _ (Nat.ne_of_lt (Nat.lt_of_lt_of_le h2 hb))).trans (h.2 x h1 h2)⟩
/-- What lies there while the fields are read. -/
structure SF (w : World) (p : Nat) (ad : Option Addr) (cap : Nat) (bs : List Nat) (i kd : Nat) (fr rd : Int) (N : Nat) (v : Value) (W : World) : Prop where
  rr : Rdr W p ad cap bs i
  kb : Kb p w W
  fb : FB W (w.heap.size + 1) kd fr rd N v
  f0 : FB W w.heap.size 0 0 0 0 (.slice none 0 0)
  pl : p < w.heap.size
section
variable {w W : World} {p : Nat} {ad : Option Addr} {cap : Nat} {bs : List Nat} {i kd : Nat} {fr rd : Int} {N : Nat} {v : Value}
theorem SF.sz (h : SF w p ad cap bs i kd fr rd N v W) : w.heap.size + 1 < W.heap.size := h.fb.lt
theorem SF.kbs {W' : World} {i' : Nat} (h : SF w p ad cap bs i kd fr rd N v W) (hr : Rdr W' p ad cap bs i') (hk : Kb p W W') : SF w p ad cap bs i' kd fr rd N v W' :=
  ⟨hr, h.kb.trans hk, h.fb.carry (hk.2 _ (by have := h.pl; omega) h.fb.lt), h.f0.carry (hk.2 _ (by have := h.pl; omega) h.f0.lt), h.pl⟩
theorem SF.below {W' : World} (h : SF w p ad cap bs i kd fr rd N v W) (hb : Below W.heap.size W W') : SF w p ad cap bs i kd fr rd N v W' := h.kbs (h.rr.carry hb) (Kb.below hb (by have := h.pl; have := h.sz; omega))
theorem SF.num (h : SF w p ad cap bs i kd fr rd N v W) (m : Nat) (h0 : 0 < m) (h7 : m ≤ 7) (hm : i + m ≤ bs.length) : Calls Tryz.prog 82 #[.pointer (some ⟨p, 0, none⟩), .int .i64 (m : Int)] W fun e W' => e = .returned (.int .i64 (nm bs i m : Nat)) ∧ SF w p ad cap bs (i + m) kd fr rd N v W' :=
  (number_ok h.rr m h0 h7 hm).mono (by rintro e W' ⟨rfl, hr, hk⟩; exact ⟨rfl, h.kbs hr hk⟩)
theorem SF.numx (h : SF w p ad cap bs i kd fr rd N v W) (m : Nat) (hm : bs.length < i + m) : Calls Tryz.prog 82 #[.pointer (some ⟨p, 0, none⟩), .int .i64 (m : Int)] W fun e W' => e = .panicked (rfu 76) ∧ Kb p w W' :=
  (number_no h.rr m hm).mono (by rintro e W' ⟨rfl, hb⟩; exact ⟨rfl, (h.below hb).kb⟩)
theorem SF.s0 (h : SF w p ad cap bs i kd fr rd N v W) (x : Nat) : SF w p ad cap bs i x fr rd N v (W.setCell ⟨w.heap.size + 1, 0, none⟩ (.int .i64 (x : Int))) :=
  ⟨h.rr.other (by have := h.pl; omega) _ _, h.kb.other (by have := h.pl; omega) (Nat.le_succ _) _ _, h.fb.set0 x, h.f0.carry (Below.heap_setCell _ _ _ _ (Nat.ne_of_lt (Nat.lt_succ_self _))), h.pl⟩
theorem SF.s1 (h : SF w p ad cap bs i kd fr rd N v W) (x : Int) : SF w p ad cap bs i kd x rd N v (W.setCell ⟨w.heap.size + 1, 1, none⟩ (.int .i64 x)) :=
  ⟨h.rr.other (by have := h.pl; omega) _ _, h.kb.other (by have := h.pl; omega) (Nat.le_succ _) _ _, h.fb.set1 x, h.f0.carry (Below.heap_setCell _ _ _ _ (Nat.ne_of_lt (Nat.lt_succ_self _))), h.pl⟩
theorem SF.s2 (h : SF w p ad cap bs i kd fr rd N v W) (x : Int) : SF w p ad cap bs i kd fr x N v (W.setCell ⟨w.heap.size + 1, 2, none⟩ (.int .i64 x)) :=
  ⟨h.rr.other (by have := h.pl; omega) _ _, h.kb.other (by have := h.pl; omega) (Nat.le_succ _) _ _, h.fb.set2 x, h.f0.carry (Below.heap_setCell _ _ _ _ (Nat.ne_of_lt (Nat.lt_succ_self _))), h.pl⟩
theorem SF.s7 (h : SF w p ad cap bs i kd fr rd N v W) (x : Value) : SF w p ad cap bs i kd fr rd N x (W.setCell ⟨w.heap.size + 1, 7, none⟩ x) :=
  ⟨h.rr.other (by have := h.pl; omega) _ _, h.kb.other (by have := h.pl; omega) (Nat.le_succ _) _ _, h.fb.set7 x, h.f0.carry (Below.heap_setCell _ _ _ _ (Nat.ne_of_lt (Nat.lt_succ_self _))), h.pl⟩
theorem SF.s3 (h : SF w p ad cap bs i kd fr rd N v W) (M : Nat) : SF w p ad cap bs i kd fr rd M v (W4 W (w.heap.size + 1) M) := by
  have hp := h.pl
  have hp1 : p < w.heap.size + 1 := by omega
  refine ⟨(((h.rr.other hp1 _ _).other hp1 _ _).other hp1 _ _).other hp1 _ _, (((h.kb.other hp1 (Nat.le_succ _) _ _).other hp1 (Nat.le_succ _) _ _).other hp1 (Nat.le_succ _) _ _).other hp1 (Nat.le_succ _) _ _, h.fb.set3 M, h.f0.carry ?_, h.pl⟩
  unfold W4
  rw [Below.heap_setCell _ _ _ _ (by simp), Below.heap_setCell _ _ _ _ (by simp), Below.heap_setCell _ _ _ _ (by simp), Below.heap_setCell _ _ _ _ (by simp)]
theorem SF.facts (h : SF w p ad cap bs i kd fr rd N v W) : (W.cell? ⟨w.heap.size + 1, 0, none⟩ = some (.int .i64 (kd : Int)) ∧ W.cell? ⟨w.heap.size + 1, 1, none⟩ = some (.int .i64 fr) ∧ W.cell? ⟨w.heap.size + 1, 2, none⟩ = some (.int .i64 rd) ∧ W.cell? ⟨w.heap.size + 1, 3, none⟩ = some (.int .u32 (wd N 0 : Nat)) ∧ W.cell? ⟨w.heap.size + 1, 4, none⟩ = some (.int .u32 (wd N 1 : Nat)) ∧ W.cell? ⟨w.heap.size + 1, 5, none⟩ = some (.int .u32 (wd N 2 : Nat)) ∧ W.cell? ⟨w.heap.size + 1, 6, none⟩ = some (.int .u32 (wd N 3 : Nat)) ∧ W.cell? ⟨w.heap.size + 1, 7, none⟩ = some v) ∧ (W.frozen? ⟨w.heap.size + 1, 0, none⟩ = false ∧ W.frozen? ⟨w.heap.size + 1, 1, none⟩ = false ∧ W.frozen? ⟨w.heap.size + 1, 2, none⟩ = false ∧ W.frozen? ⟨w.heap.size + 1, 3, none⟩ = false ∧ W.frozen? ⟨w.heap.size + 1, 4, none⟩ = false ∧ W.frozen? ⟨w.heap.size + 1, 5, none⟩ = false ∧ W.frozen? ⟨w.heap.size + 1, 6, none⟩ = false ∧ W.frozen? ⟨w.heap.size + 1, 7, none⟩ = false) :=
  ⟨h.fb.cells, h.fb.thaw 0, h.fb.thaw 1, h.fb.thaw 2, h.fb.thaw 3, h.fb.thaw 4, h.fb.thaw 5, h.fb.thaw 6, h.fb.thaw 7⟩
end
/-- What fields answers. -/
def FdO (p : Nat) (ad : Option Addr) (cap : Nat) (bs : List Nat) (R : Except Int (FN × Nat)) (w : World) (e : Ending) (w' : World) : Prop :=
  match R with
  | .error er => e = .panicked (rfu er) ∧ Kb p w w'
  | .ok ((kd, fr, rd, N, l), j) => ∃ v, e = .returned (fv kd (fr : Int) (rd : Int) N v) ∧ w'.ownsRow w.heap.size 80 3 v l.length (fl l) ∧ Rdr w' p ad cap bs j ∧ Kb p w w'
theorem fdo_err {p : Nat} {ad : Option Addr} {cap : Nat} {bs : List Nat} {R : Except Int (FN × Nat)} {w w' : World} {er : Int} (h : R = .error er) (hk : Kb p w w') : FdO p ad cap bs R w (.panicked (rfu er)) w' := by
  subst h
  exact ⟨rfl, hk⟩
theorem retF {f : Func} {q : Tmp} {R : Ending → World → Prop} {a : Act} {w : World} {b kd : Nat} {fr rd : Int} {N : Nat} {v : Value} (hres : f.results = #[.cell q 88]) (hp : a.tmps.getD q undef = .pointer (some ⟨b, 0, none⟩)) (hd : a.defers = []) (h : FB w b kd fr rd N v) (hR : R (.returned (fv kd fr rd N v)) w) : bodyPost Tryz.prog f R .ret a w :=
  bodyPost_ret (results_cell_row hres a.tmps w b _ _ (0, 0) _ hp h Tryz.underlying88 rfl (by kernel_rfl)) hd hR
end Go.Proofs.YtnomeinppdnhfaaGreat
namespace Go.Proofs.YtnomeinppdnhfaaGreat
open Go.RowKit Go.Shelf

theorem sf_start {w : World} {p : Nat} {ad : Option Addr} {cap : Nat} {bs : List Nat} (h : Rdr w p ad cap bs 0) : SF w p ad cap bs 0 0 0 0 0 (.slice none 0 0) ((w.alloc (.cells #[.int .i64 0, .int .i64 0, .int .i64 0, .int .u32 0, .int .u32 0, .int .u32 0, .int .u32 0, .slice none 0 0] 88)).alloc (.cells #[.int .i64 0, .int .i64 0, .int .i64 0, .int .u32 0, .int .u32 0, .int .u32 0, .int .u32 0, .slice none 0 0] 88)) := by
  have hb := ((Below.refl w.heap.size w).alloc (Nat.le_refl _) (.cells #[.int .i64 0, .int .i64 0, .int .i64 0, .int .u32 0, .int .u32 0, .int .u32 0, .int .u32 0, .slice none 0 0] 88)).alloc (by simp) (.cells #[.int .i64 0, .int .i64 0, .int .i64 0, .int .u32 0, .int .u32 0, .int .u32 0, .int .u32 0, .slice none 0 0] 88)
  have e : fcs 0 0 0 0 (.slice none 0 0) = #[.int .i64 0, .int .i64 0, .int .i64 0, .int .u32 0, .int .u32 0, .int .u32 0, .int .u32 0, .slice none 0 0] := by simp [fcs, wd]
  refine ⟨h.carry hb, Kb.below hb (Nat.le_of_lt h.lt), ?_, ?_, h.lt⟩
  · unfold FB
    rw [e]
    exact new_at (by simp)
  · unfold FB
    rw [e]
    exact old_at (new_at rfl)
set_option maxHeartbeats 4000000 in
set_option maxRecDepth 100000 in
theorem fd1 {w : World} {p : Nat} {ad : Option Addr} {cap : Nat} {bs : List Nat} (h : Rdr w p ad cap bs 0) (n : Nat) (h1 : bs.length < 2) : Calls Tryz.prog 26 #[.pointer (some ⟨p, 0, none⟩), .int .i64 (n : Int)] w (FdO p ad cap bs (.error 76) w) := by
  have hS0 := sf_start h
  have hx : ∀ W, SF w p ad cap bs 0 0 0 0 0 (.slice none 0 0) W → Calls Tryz.prog 82 #[.pointer (some ⟨p, 0, none⟩), .int .i64 2] W fun e W' => e = .panicked (rfu 76) ∧ Kb p w W' := fun W h => SF.numx h 2 (by omega)
  obtain ⟨⟨c0, c1, c2, c3, c4, c5, c6, c7⟩, z0, z1, z2, z3, z4, z5, z6, z7⟩ := hS0.facts
  go_enter Tryz.func26, Tryz.ntmps26
  go_wp2_with (first | (go_at_call 82; (with_reducible refine (hx _ hS0).mono ?_); rintro e ux ⟨rfl, hkx⟩))
  exact ⟨rfl, fdo_err rfl hkx⟩
set_option maxHeartbeats 4000000 in
set_option maxRecDepth 100000 in
theorem fd2 {w : World} {p : Nat} {ad : Option Addr} {cap : Nat} {bs : List Nat} (h : Rdr w p ad cap bs 0) (n : Nat) (h1 : 2 ≤ bs.length) (M : Nat) (hM : nm bs 0 2 = M) (hM2 : M ≠ 25971) : Calls Tryz.prog 26 #[.pointer (some ⟨p, 0, none⟩), .int .i64 (n : Int)] w (FdO p ad cap bs (.error 70) w) := by
  have hS0 := sf_start h
  have hm : ∀ W, SF w p ad cap bs 0 0 0 0 0 (.slice none 0 0) W → Calls Tryz.prog 82 #[.pointer (some ⟨p, 0, none⟩), .int .i64 2] W fun e W' => e = .returned (.int .i64 (M : Nat)) ∧ SF w p ad cap bs 2 0 0 0 0 (.slice none 0 0) W' := fun W h => by
    have := SF.num h 2 (by decide) (by decide) (by omega)
    rwa [hM] at this
  have hr70 := refuse_yes 70
  have hMi : ((M : Int) != 25971) = true := by simp; omega
  obtain ⟨⟨c0, c1, c2, c3, c4, c5, c6, c7⟩, z0, z1, z2, z3, z4, z5, z6, z7⟩ := hS0.facts
  go_enter Tryz.func26, Tryz.ntmps26
  go_wp2_with (first | (go_at_call 82; (with_reducible refine (hm _ hS0).mono ?_); rintro e u1 ⟨rfl, hS1⟩; clear c0 c1 c2 c3 c4 c5 c6 c7 z0 z1 z2 z3 z4 z5 z6 z7; obtain ⟨⟨c0, c1, c2, c3, c4, c5, c6, c7⟩, z0, z1, z2, z3, z4, z5, z6, z7⟩ := hS1.facts) | (go_at_call 81; (with_reducible refine (hr70 _).mono ?_); rintro e ur ⟨rfl, hu⟩; rw [hu]; clear hu ur))
  exact ⟨rfl, fdo_err rfl hS1.kb⟩
set_option maxHeartbeats 4000000 in
set_option maxRecDepth 100000 in
theorem fd3 {w : World} {p : Nat} {ad : Option Addr} {cap : Nat} {bs : List Nat} (h : Rdr w p ad cap bs 0) (n : Nat) (h1 : 2 ≤ bs.length) (hM : nm bs 0 2 = 25971) (h2 : bs.length < 3) : Calls Tryz.prog 26 #[.pointer (some ⟨p, 0, none⟩), .int .i64 (n : Int)] w (FdO p ad cap bs (.error 76) w) := by
  have hS0 := sf_start h
  have hm : ∀ W, SF w p ad cap bs 0 0 0 0 0 (.slice none 0 0) W → Calls Tryz.prog 82 #[.pointer (some ⟨p, 0, none⟩), .int .i64 2] W fun e W' => e = .returned (.int .i64 (25971 : Nat)) ∧ SF w p ad cap bs 2 0 0 0 0 (.slice none 0 0) W' := fun W h => by
    have := SF.num h 2 (by decide) (by decide) (by omega)
    rwa [hM] at this
  have hr70 := refuse_no 70
  have hx : ∀ W, SF w p ad cap bs 2 0 0 0 0 (.slice none 0 0) W → Calls Tryz.prog 82 #[.pointer (some ⟨p, 0, none⟩), .int .i64 1] W fun e W' => e = .panicked (rfu 76) ∧ Kb p w W' := fun W h => SF.numx h 1 (by omega)
  obtain ⟨⟨c0, c1, c2, c3, c4, c5, c6, c7⟩, z0, z1, z2, z3, z4, z5, z6, z7⟩ := hS0.facts
  go_enter Tryz.func26, Tryz.ntmps26
  go_wp2_with (first | (go_at_call 82; (with_reducible refine (hm _ hS0).mono ?_); rintro e u1 ⟨rfl, hS1⟩; clear c0 c1 c2 c3 c4 c5 c6 c7 z0 z1 z2 z3 z4 z5 z6 z7; obtain ⟨⟨c0, c1, c2, c3, c4, c5, c6, c7⟩, z0, z1, z2, z3, z4, z5, z6, z7⟩ := hS1.facts) | (go_at_call 81; (with_reducible refine (hr70 _).mono ?_); rintro e ur ⟨rfl, hu⟩; rw [hu]; clear hu ur) | (go_at_call 82; (with_reducible refine (hx _ hS1).mono ?_); rintro e ux ⟨rfl, hkx⟩))
  exact ⟨rfl, fdo_err rfl hkx⟩
set_option maxHeartbeats 4000000 in
set_option maxRecDepth 100000 in
theorem fd4a {w : World} {p : Nat} {ad : Option Addr} {cap : Nat} {bs : List Nat} (h : Rdr w p ad cap bs 0) (n : Nat) (h1 : 2 ≤ bs.length) (hM : nm bs 0 2 = 25971) (h2 : 3 ≤ bs.length) (K : Nat) (hK : nm bs 2 1 = K) (hk1 : K < 1) : Calls Tryz.prog 26 #[.pointer (some ⟨p, 0, none⟩), .int .i64 (n : Int)] w (FdO p ad cap bs (.error 71) w) := by
  have hS0 := sf_start h
  have hm : ∀ W, SF w p ad cap bs 0 0 0 0 0 (.slice none 0 0) W → Calls Tryz.prog 82 #[.pointer (some ⟨p, 0, none⟩), .int .i64 2] W fun e W' => e = .returned (.int .i64 (25971 : Nat)) ∧ SF w p ad cap bs 2 0 0 0 0 (.slice none 0 0) W' := fun W h => by
    have := SF.num h 2 (by decide) (by decide) (by omega)
    rwa [hM] at this
  have hr70 := refuse_no 70
  have hk : ∀ W, SF w p ad cap bs 2 0 0 0 0 (.slice none 0 0) W → Calls Tryz.prog 82 #[.pointer (some ⟨p, 0, none⟩), .int .i64 1] W fun e W' => e = .returned (.int .i64 (K : Nat)) ∧ SF w p ad cap bs 3 0 0 0 0 (.slice none 0 0) W' := fun W h => by
    have := SF.num h 1 (by decide) (by decide) (by omega)
    rwa [hK] at this
  have hr71 := refuse_yes 71
  have q1 : decide ((K : Int) < 1) = true := decide_eq_true (by omega)
  obtain ⟨⟨c0, c1, c2, c3, c4, c5, c6, c7⟩, z0, z1, z2, z3, z4, z5, z6, z7⟩ := hS0.facts
  go_enter Tryz.func26, Tryz.ntmps26
  go_wp2_with (first | (go_at_call 82; (with_reducible refine (hm _ hS0).mono ?_); rintro e u1 ⟨rfl, hS1⟩; clear c0 c1 c2 c3 c4 c5 c6 c7 z0 z1 z2 z3 z4 z5 z6 z7; obtain ⟨⟨c0, c1, c2, c3, c4, c5, c6, c7⟩, z0, z1, z2, z3, z4, z5, z6, z7⟩ := hS1.facts) | (go_at_call 81; (with_reducible refine (hr70 _).mono ?_); rintro e ur ⟨rfl, hu⟩; rw [hu]; clear hu ur) | (go_at_call 82; (with_reducible refine (hk _ hS1).mono ?_); rintro e u2 ⟨rfl, hS2⟩; clear c0 c1 c2 c3 c4 c5 c6 c7 z0 z1 z2 z3 z4 z5 z6 z7; obtain ⟨⟨c0, c1, c2, c3, c4, c5, c6, c7⟩, z0, z1, z2, z3, z4, z5, z6, z7⟩ := hS2.facts; have hS3 := hS2.s0 K) | (go_at_call 81; (with_reducible refine (hr71 _).mono ?_); rintro e ur ⟨rfl, hu⟩; rw [hu]; clear hu ur))
  exact ⟨rfl, fdo_err rfl hS3.kb⟩
set_option maxHeartbeats 4000000 in
set_option maxRecDepth 100000 in
theorem fd4b {w : World} {p : Nat} {ad : Option Addr} {cap : Nat} {bs : List Nat} (h : Rdr w p ad cap bs 0) (n : Nat) (h1 : 2 ≤ bs.length) (hM : nm bs 0 2 = 25971) (h2 : 3 ≤ bs.length) (K : Nat) (hK : nm bs 2 1 = K) (hk1 : 3 < K) : Calls Tryz.prog 26 #[.pointer (some ⟨p, 0, none⟩), .int .i64 (n : Int)] w (FdO p ad cap bs (.error 71) w) := by
  have hS0 := sf_start h
  have hm : ∀ W, SF w p ad cap bs 0 0 0 0 0 (.slice none 0 0) W → Calls Tryz.prog 82 #[.pointer (some ⟨p, 0, none⟩), .int .i64 2] W fun e W' => e = .returned (.int .i64 (25971 : Nat)) ∧ SF w p ad cap bs 2 0 0 0 0 (.slice none 0 0) W' := fun W h => by
    have := SF.num h 2 (by decide) (by decide) (by omega)
    rwa [hM] at this
  have hr70 := refuse_no 70
  have hk : ∀ W, SF w p ad cap bs 2 0 0 0 0 (.slice none 0 0) W → Calls Tryz.prog 82 #[.pointer (some ⟨p, 0, none⟩), .int .i64 1] W fun e W' => e = .returned (.int .i64 (K : Nat)) ∧ SF w p ad cap bs 3 0 0 0 0 (.slice none 0 0) W' := fun W h => by
    have := SF.num h 1 (by decide) (by decide) (by omega)
    rwa [hK] at this
  have hr71 := refuse_yes 71
  have q0 : decide ((K : Int) < 1) = false := decide_eq_false (by omega)
  have q1 : decide ((3 : Int) < (K : Int)) = true := decide_eq_true (by omega)
  obtain ⟨⟨c0, c1, c2, c3, c4, c5, c6, c7⟩, z0, z1, z2, z3, z4, z5, z6, z7⟩ := hS0.facts
  go_enter Tryz.func26, Tryz.ntmps26
  go_wp2_with (first | (go_at_call 82; (with_reducible refine (hm _ hS0).mono ?_); rintro e u1 ⟨rfl, hS1⟩; clear c0 c1 c2 c3 c4 c5 c6 c7 z0 z1 z2 z3 z4 z5 z6 z7; obtain ⟨⟨c0, c1, c2, c3, c4, c5, c6, c7⟩, z0, z1, z2, z3, z4, z5, z6, z7⟩ := hS1.facts) | (go_at_call 81; (with_reducible refine (hr70 _).mono ?_); rintro e ur ⟨rfl, hu⟩; rw [hu]; clear hu ur) | (go_at_call 82; (with_reducible refine (hk _ hS1).mono ?_); rintro e u2 ⟨rfl, hS2⟩; clear c0 c1 c2 c3 c4 c5 c6 c7 z0 z1 z2 z3 z4 z5 z6 z7; obtain ⟨⟨c0, c1, c2, c3, c4, c5, c6, c7⟩, z0, z1, z2, z3, z4, z5, z6, z7⟩ := hS2.facts; have hS3 := hS2.s0 K) | (go_at_call 81; (with_reducible refine (hr71 _).mono ?_); rintro e ur ⟨rfl, hu⟩; rw [hu]; clear hu ur))
  exact ⟨rfl, fdo_err rfl hS3.kb⟩
set_option maxHeartbeats 4000000 in
set_option maxRecDepth 100000 in
theorem fd5 {w : World} {p : Nat} {ad : Option Addr} {cap : Nat} {bs : List Nat} (h : Rdr w p ad cap bs 0) (n : Nat) (h1 : 2 ≤ bs.length) (hM : nm bs 0 2 = 25971) (h2 : 3 ≤ bs.length) (K : Nat) (hK : nm bs 2 1 = K) (hk1 : 1 ≤ K) (hk3 : K ≤ 3) (h3 : bs.length < 4) : Calls Tryz.prog 26 #[.pointer (some ⟨p, 0, none⟩), .int .i64 (n : Int)] w (FdO p ad cap bs (.error 76) w) := by
  have hS0 := sf_start h
  have hm : ∀ W, SF w p ad cap bs 0 0 0 0 0 (.slice none 0 0) W → Calls Tryz.prog 82 #[.pointer (some ⟨p, 0, none⟩), .int .i64 2] W fun e W' => e = .returned (.int .i64 (25971 : Nat)) ∧ SF w p ad cap bs 2 0 0 0 0 (.slice none 0 0) W' := fun W h => by
    have := SF.num h 2 (by decide) (by decide) (by omega)
    rwa [hM] at this
  have hr70 := refuse_no 70
  have hk : ∀ W, SF w p ad cap bs 2 0 0 0 0 (.slice none 0 0) W → Calls Tryz.prog 82 #[.pointer (some ⟨p, 0, none⟩), .int .i64 1] W fun e W' => e = .returned (.int .i64 (K : Nat)) ∧ SF w p ad cap bs 3 0 0 0 0 (.slice none 0 0) W' := fun W h => by
    have := SF.num h 1 (by decide) (by decide) (by omega)
    rwa [hK] at this
  have hr71 := refuse_no 71
  have q0 : decide ((K : Int) < 1) = false := decide_eq_false (by omega)
  have q1 : decide ((3 : Int) < (K : Int)) = false := decide_eq_false (by omega)
  have hx : ∀ W, SF w p ad cap bs 3 K 0 0 0 (.slice none 0 0) W → Calls Tryz.prog 82 #[.pointer (some ⟨p, 0, none⟩), .int .i64 1] W fun e W' => e = .panicked (rfu 76) ∧ Kb p w W' := fun W h => SF.numx h 1 (by omega)
  obtain ⟨⟨c0, c1, c2, c3, c4, c5, c6, c7⟩, z0, z1, z2, z3, z4, z5, z6, z7⟩ := hS0.facts
  go_enter Tryz.func26, Tryz.ntmps26
  go_wp2_with (first | (go_at_call 82; (with_reducible refine (hm _ hS0).mono ?_); rintro e u1 ⟨rfl, hS1⟩; clear c0 c1 c2 c3 c4 c5 c6 c7 z0 z1 z2 z3 z4 z5 z6 z7; obtain ⟨⟨c0, c1, c2, c3, c4, c5, c6, c7⟩, z0, z1, z2, z3, z4, z5, z6, z7⟩ := hS1.facts) | (go_at_call 81; (with_reducible refine (hr70 _).mono ?_); rintro e ur ⟨rfl, hu⟩; rw [hu]; clear hu ur) | (go_at_call 82; (with_reducible refine (hk _ hS1).mono ?_); rintro e u2 ⟨rfl, hS2⟩; clear c0 c1 c2 c3 c4 c5 c6 c7 z0 z1 z2 z3 z4 z5 z6 z7; obtain ⟨⟨c0, c1, c2, c3, c4, c5, c6, c7⟩, z0, z1, z2, z3, z4, z5, z6, z7⟩ := hS2.facts; have hS3 := hS2.s0 K) | (go_at_call 81; (with_reducible refine (hr71 _).mono ?_); rintro e ur ⟨rfl, hu⟩; rw [hu]; clear hu ur) | (go_at_call 82; (with_reducible refine (hx _ hS3).mono ?_); rintro e ux ⟨rfl, hkx⟩))
  exact ⟨rfl, fdo_err rfl hkx⟩
set_option maxHeartbeats 4000000 in
set_option maxRecDepth 100000 in
theorem fd6 {w : World} {p : Nat} {ad : Option Addr} {cap : Nat} {bs : List Nat} (h : Rdr w p ad cap bs 0) (n : Nat) (h1 : 2 ≤ bs.length) (hM : nm bs 0 2 = 25971) (h2 : 3 ≤ bs.length) (K : Nat) (hK : nm bs 2 1 = K) (hk1 : 1 ≤ K) (hk3 : K ≤ 3) (h3 : 4 ≤ bs.length) (S : Nat) (hSz : nm bs 3 1 = S) (hs1 : S ≠ n) : Calls Tryz.prog 26 #[.pointer (some ⟨p, 0, none⟩), .int .i64 (n : Int)] w (FdO p ad cap bs (.error 102) w) := by
  have hS0 := sf_start h
  have hm : ∀ W, SF w p ad cap bs 0 0 0 0 0 (.slice none 0 0) W → Calls Tryz.prog 82 #[.pointer (some ⟨p, 0, none⟩), .int .i64 2] W fun e W' => e = .returned (.int .i64 (25971 : Nat)) ∧ SF w p ad cap bs 2 0 0 0 0 (.slice none 0 0) W' := fun W h => by
    have := SF.num h 2 (by decide) (by decide) (by omega)
    rwa [hM] at this
  have hr70 := refuse_no 70
  have hk : ∀ W, SF w p ad cap bs 2 0 0 0 0 (.slice none 0 0) W → Calls Tryz.prog 82 #[.pointer (some ⟨p, 0, none⟩), .int .i64 1] W fun e W' => e = .returned (.int .i64 (K : Nat)) ∧ SF w p ad cap bs 3 0 0 0 0 (.slice none 0 0) W' := fun W h => by
    have := SF.num h 1 (by decide) (by decide) (by omega)
    rwa [hK] at this
  have hr71 := refuse_no 71
  have q0 : decide ((K : Int) < 1) = false := decide_eq_false (by omega)
  have q1 : decide ((3 : Int) < (K : Int)) = false := decide_eq_false (by omega)
  have hs : ∀ W, SF w p ad cap bs 3 K 0 0 0 (.slice none 0 0) W → Calls Tryz.prog 82 #[.pointer (some ⟨p, 0, none⟩), .int .i64 1] W fun e W' => e = .returned (.int .i64 (S : Nat)) ∧ SF w p ad cap bs 4 K 0 0 0 (.slice none 0 0) W' := fun W h => by
    have := SF.num h 1 (by decide) (by decide) (by omega)
    rwa [hSz] at this
  have hr102 := refuse_yes 102
  have q2 : ((S : Int) != (n : Int)) = true := by simp; omega
  obtain ⟨⟨c0, c1, c2, c3, c4, c5, c6, c7⟩, z0, z1, z2, z3, z4, z5, z6, z7⟩ := hS0.facts
  go_enter Tryz.func26, Tryz.ntmps26
  go_wp2_with (first | (go_at_call 82; (with_reducible refine (hm _ hS0).mono ?_); rintro e u1 ⟨rfl, hS1⟩; clear c0 c1 c2 c3 c4 c5 c6 c7 z0 z1 z2 z3 z4 z5 z6 z7; obtain ⟨⟨c0, c1, c2, c3, c4, c5, c6, c7⟩, z0, z1, z2, z3, z4, z5, z6, z7⟩ := hS1.facts) | (go_at_call 81; (with_reducible refine (hr70 _).mono ?_); rintro e ur ⟨rfl, hu⟩; rw [hu]; clear hu ur) | (go_at_call 82; (with_reducible refine (hk _ hS1).mono ?_); rintro e u2 ⟨rfl, hS2⟩; clear c0 c1 c2 c3 c4 c5 c6 c7 z0 z1 z2 z3 z4 z5 z6 z7; obtain ⟨⟨c0, c1, c2, c3, c4, c5, c6, c7⟩, z0, z1, z2, z3, z4, z5, z6, z7⟩ := hS2.facts; have hS3 := hS2.s0 K) | (go_at_call 81; (with_reducible refine (hr71 _).mono ?_); rintro e ur ⟨rfl, hu⟩; rw [hu]; clear hu ur) | (go_at_call 82; (with_reducible refine (hs _ hS3).mono ?_); rintro e u4 ⟨rfl, hS4⟩; clear c0 c1 c2 c3 c4 c5 c6 c7 z0 z1 z2 z3 z4 z5 z6 z7; obtain ⟨⟨c0, c1, c2, c3, c4, c5, c6, c7⟩, z0, z1, z2, z3, z4, z5, z6, z7⟩ := hS4.facts) | (go_at_call 81; (with_reducible refine (hr102 _).mono ?_); rintro e ur ⟨rfl, hu⟩; rw [hu]; clear hu ur))
  exact ⟨rfl, fdo_err rfl hS4.kb⟩
set_option maxHeartbeats 4000000 in
set_option maxRecDepth 100000 in
theorem fd7 {w : World} {p : Nat} {ad : Option Addr} {cap : Nat} {bs : List Nat} (h : Rdr w p ad cap bs 0) (n : Nat) (h1 : 2 ≤ bs.length) (hM : nm bs 0 2 = 25971) (h2 : 3 ≤ bs.length) (K : Nat) (hK : nm bs 2 1 = K) (hk1 : 1 ≤ K) (hk3 : K ≤ 3) (h3 : 4 ≤ bs.length) (hSz : nm bs 3 1 = n) (h4 : bs.length < 5) : Calls Tryz.prog 26 #[.pointer (some ⟨p, 0, none⟩), .int .i64 (n : Int)] w (FdO p ad cap bs (.error 76) w) := by
  have hS0 := sf_start h
  have hm : ∀ W, SF w p ad cap bs 0 0 0 0 0 (.slice none 0 0) W → Calls Tryz.prog 82 #[.pointer (some ⟨p, 0, none⟩), .int .i64 2] W fun e W' => e = .returned (.int .i64 (25971 : Nat)) ∧ SF w p ad cap bs 2 0 0 0 0 (.slice none 0 0) W' := fun W h => by
    have := SF.num h 2 (by decide) (by decide) (by omega)
    rwa [hM] at this
  have hr70 := refuse_no 70
  have hk : ∀ W, SF w p ad cap bs 2 0 0 0 0 (.slice none 0 0) W → Calls Tryz.prog 82 #[.pointer (some ⟨p, 0, none⟩), .int .i64 1] W fun e W' => e = .returned (.int .i64 (K : Nat)) ∧ SF w p ad cap bs 3 0 0 0 0 (.slice none 0 0) W' := fun W h => by
    have := SF.num h 1 (by decide) (by decide) (by omega)
    rwa [hK] at this
  have hr71 := refuse_no 71
  have q0 : decide ((K : Int) < 1) = false := decide_eq_false (by omega)
  have q1 : decide ((3 : Int) < (K : Int)) = false := decide_eq_false (by omega)
  have hs : ∀ W, SF w p ad cap bs 3 K 0 0 0 (.slice none 0 0) W → Calls Tryz.prog 82 #[.pointer (some ⟨p, 0, none⟩), .int .i64 1] W fun e W' => e = .returned (.int .i64 (n : Nat)) ∧ SF w p ad cap bs 4 K 0 0 0 (.slice none 0 0) W' := fun W h => by
    have := SF.num h 1 (by decide) (by decide) (by omega)
    rwa [hSz] at this
  have hr102 := refuse_no 102
  have hx : ∀ W, SF w p ad cap bs 4 K 0 0 0 (.slice none 0 0) W → Calls Tryz.prog 82 #[.pointer (some ⟨p, 0, none⟩), .int .i64 1] W fun e W' => e = .panicked (rfu 76) ∧ Kb p w W' := fun W h => SF.numx h 1 (by omega)
  obtain ⟨⟨c0, c1, c2, c3, c4, c5, c6, c7⟩, z0, z1, z2, z3, z4, z5, z6, z7⟩ := hS0.facts
  go_enter Tryz.func26, Tryz.ntmps26
  go_wp2_with (first | (go_at_call 82; (with_reducible refine (hm _ hS0).mono ?_); rintro e u1 ⟨rfl, hS1⟩; clear c0 c1 c2 c3 c4 c5 c6 c7 z0 z1 z2 z3 z4 z5 z6 z7; obtain ⟨⟨c0, c1, c2, c3, c4, c5, c6, c7⟩, z0, z1, z2, z3, z4, z5, z6, z7⟩ := hS1.facts) | (go_at_call 81; (with_reducible refine (hr70 _).mono ?_); rintro e ur ⟨rfl, hu⟩; rw [hu]; clear hu ur) | (go_at_call 82; (with_reducible refine (hk _ hS1).mono ?_); rintro e u2 ⟨rfl, hS2⟩; clear c0 c1 c2 c3 c4 c5 c6 c7 z0 z1 z2 z3 z4 z5 z6 z7; obtain ⟨⟨c0, c1, c2, c3, c4, c5, c6, c7⟩, z0, z1, z2, z3, z4, z5, z6, z7⟩ := hS2.facts; have hS3 := hS2.s0 K) | (go_at_call 81; (with_reducible refine (hr71 _).mono ?_); rintro e ur ⟨rfl, hu⟩; rw [hu]; clear hu ur) | (go_at_call 82; (with_reducible refine (hs _ hS3).mono ?_); rintro e u4 ⟨rfl, hS4⟩; clear c0 c1 c2 c3 c4 c5 c6 c7 z0 z1 z2 z3 z4 z5 z6 z7; obtain ⟨⟨c0, c1, c2, c3, c4, c5, c6, c7⟩, z0, z1, z2, z3, z4, z5, z6, z7⟩ := hS4.facts) | (go_at_call 81; (with_reducible refine (hr102 _).mono ?_); rintro e ur ⟨rfl, hu⟩; rw [hu]; clear hu ur) | (go_at_call 82; (with_reducible refine (hx _ hS4).mono ?_); rintro e ux ⟨rfl, hkx⟩))
  exact ⟨rfl, fdo_err rfl hkx⟩
set_option maxHeartbeats 4000000 in
set_option maxRecDepth 100000 in
theorem fd8 {w : World} {p : Nat} {ad : Option Addr} {cap : Nat} {bs : List Nat} (h : Rdr w p ad cap bs 0) (n : Nat) (h1 : 2 ≤ bs.length) (hM : nm bs 0 2 = 25971) (h2 : 3 ≤ bs.length) (K : Nat) (hK : nm bs 2 1 = K) (hk1 : 1 ≤ K) (hk3 : K ≤ 3) (h3 : 4 ≤ bs.length) (hSz : nm bs 3 1 = n) (h4 : 5 ≤ bs.length) (G : Nat) (hG : nm bs 4 1 = G) (hg1 : n ≤ G) : Calls Tryz.prog 26 #[.pointer (some ⟨p, 0, none⟩), .int .i64 (n : Int)] w (FdO p ad cap bs (.error 72) w) := by
  have hS0 := sf_start h
  have hm : ∀ W, SF w p ad cap bs 0 0 0 0 0 (.slice none 0 0) W → Calls Tryz.prog 82 #[.pointer (some ⟨p, 0, none⟩), .int .i64 2] W fun e W' => e = .returned (.int .i64 (25971 : Nat)) ∧ SF w p ad cap bs 2 0 0 0 0 (.slice none 0 0) W' := fun W h => by
    have := SF.num h 2 (by decide) (by decide) (by omega)
    rwa [hM] at this
  have hr70 := refuse_no 70
  have hk : ∀ W, SF w p ad cap bs 2 0 0 0 0 (.slice none 0 0) W → Calls Tryz.prog 82 #[.pointer (some ⟨p, 0, none⟩), .int .i64 1] W fun e W' => e = .returned (.int .i64 (K : Nat)) ∧ SF w p ad cap bs 3 0 0 0 0 (.slice none 0 0) W' := fun W h => by
    have := SF.num h 1 (by decide) (by decide) (by omega)
    rwa [hK] at this
  have hr71 := refuse_no 71
  have q0 : decide ((K : Int) < 1) = false := decide_eq_false (by omega)
  have q1 : decide ((3 : Int) < (K : Int)) = false := decide_eq_false (by omega)
  have hs : ∀ W, SF w p ad cap bs 3 K 0 0 0 (.slice none 0 0) W → Calls Tryz.prog 82 #[.pointer (some ⟨p, 0, none⟩), .int .i64 1] W fun e W' => e = .returned (.int .i64 (n : Nat)) ∧ SF w p ad cap bs 4 K 0 0 0 (.slice none 0 0) W' := fun W h => by
    have := SF.num h 1 (by decide) (by decide) (by omega)
    rwa [hSz] at this
  have hr102 := refuse_no 102
  have hf : ∀ W, SF w p ad cap bs 4 K 0 0 0 (.slice none 0 0) W → Calls Tryz.prog 82 #[.pointer (some ⟨p, 0, none⟩), .int .i64 1] W fun e W' => e = .returned (.int .i64 (G : Nat)) ∧ SF w p ad cap bs 5 K 0 0 0 (.slice none 0 0) W' := fun W h => by
    have := SF.num h 1 (by decide) (by decide) (by omega)
    rwa [hG] at this
  have hr72 := refuse_yes 72
  have q3 : decide (n ≤ G) = true := decide_eq_true (by omega)
  obtain ⟨⟨c0, c1, c2, c3, c4, c5, c6, c7⟩, z0, z1, z2, z3, z4, z5, z6, z7⟩ := hS0.facts
  go_enter Tryz.func26, Tryz.ntmps26
  go_wp2_with (first | (go_at_call 82; (with_reducible refine (hm _ hS0).mono ?_); rintro e u1 ⟨rfl, hS1⟩; clear c0 c1 c2 c3 c4 c5 c6 c7 z0 z1 z2 z3 z4 z5 z6 z7; obtain ⟨⟨c0, c1, c2, c3, c4, c5, c6, c7⟩, z0, z1, z2, z3, z4, z5, z6, z7⟩ := hS1.facts) | (go_at_call 81; (with_reducible refine (hr70 _).mono ?_); rintro e ur ⟨rfl, hu⟩; rw [hu]; clear hu ur) | (go_at_call 82; (with_reducible refine (hk _ hS1).mono ?_); rintro e u2 ⟨rfl, hS2⟩; clear c0 c1 c2 c3 c4 c5 c6 c7 z0 z1 z2 z3 z4 z5 z6 z7; obtain ⟨⟨c0, c1, c2, c3, c4, c5, c6, c7⟩, z0, z1, z2, z3, z4, z5, z6, z7⟩ := hS2.facts; have hS3 := hS2.s0 K) | (go_at_call 81; (with_reducible refine (hr71 _).mono ?_); rintro e ur ⟨rfl, hu⟩; rw [hu]; clear hu ur) | (go_at_call 82; (with_reducible refine (hs _ hS3).mono ?_); rintro e u4 ⟨rfl, hS4⟩; clear c0 c1 c2 c3 c4 c5 c6 c7 z0 z1 z2 z3 z4 z5 z6 z7; obtain ⟨⟨c0, c1, c2, c3, c4, c5, c6, c7⟩, z0, z1, z2, z3, z4, z5, z6, z7⟩ := hS4.facts) | (go_at_call 81; (with_reducible refine (hr102 _).mono ?_); rintro e ur ⟨rfl, hu⟩; rw [hu]; clear hu ur) | (go_at_call 82; (with_reducible refine (hf _ hS4).mono ?_); rintro e u5 ⟨rfl, hS5⟩; clear c0 c1 c2 c3 c4 c5 c6 c7 z0 z1 z2 z3 z4 z5 z6 z7; obtain ⟨⟨c0, c1, c2, c3, c4, c5, c6, c7⟩, z0, z1, z2, z3, z4, z5, z6, z7⟩ := hS5.facts; have hS6 := hS5.s1 (G : Int)) | (go_at_call 81; (with_reducible refine (hr72 _).mono ?_); rintro e ur ⟨rfl, hu⟩; rw [hu]; clear hu ur))
  exact ⟨rfl, fdo_err rfl hS6.kb⟩
theorem SF.newsx {w W : World} {p : Nat} {ad : Option Addr} {cap : Nat} {bs : List Nat} {i kd : Nat} {fr rd : Int} {N : Nat} {v : Value} (h : SF w p ad cap bs i kd fr rd N v W) (n : Nat) (hn : n ≤ 100) (er : Int) (hR : rdW n bs i = .error er) : Calls Tryz.prog 90 #[.pointer (some ⟨p, 0, none⟩), .int .i64 (n : Int)] W fun e W' => e = .panicked (rfu er) ∧ Kb p w W' :=
  (news_any h.rr n hn).mono (by
    intro e W' q
    rw [hR] at q
    exact ⟨q.1, h.kb.trans q.2⟩)
theorem SF.newso {w W : World} {p : Nat} {ad : Option Addr} {cap : Nat} {bs : List Nat} {i kd : Nat} {fr rd : Int} {N : Nat} {v : Value} (h : SF w p ad cap bs i kd fr rd N v W) (n : Nat) (hn : n ≤ 100) (l : List (Int × Int × Int)) (j : Nat) (hR : rdW n bs i = .ok (l, j)) : Calls Tryz.prog 90 #[.pointer (some ⟨p, 0, none⟩), .int .i64 (n : Int)] W fun e W' => ∃ a2 c2, e = .returned (.slice a2 l.length c2) ∧ W'.ownsRow (w.heap.size + 2) 80 3 (.slice a2 l.length c2) l.length (fl l) ∧ SF w p ad cap bs j kd fr rd N v W' :=
  (news_any h.rr n hn).mono (by
    intro e W' q
    rw [hR] at q
    obtain ⟨x, h1, h2, h3, h4⟩ := q
    obtain ⟨a2, c2, rfl⟩ : ∃ a2 c2, x = .slice a2 l.length c2 := by
      rcases own_form h2 with ⟨e1, e2⟩ | ⟨g, c, e1, _⟩
      · exact ⟨none, 0, by rw [e1, e2]⟩
      · exact ⟨_, _, e1⟩
    exact ⟨a2, c2, h1, ownsRow_base h2 (by have := h.sz; omega), h.kbs h3 h4⟩)
theorem own_set8 {W : World} {b b' kd : Nat} {fr rd : Int} {N : Nat} {v x : Value} {e : TypeId} {size n : Nat} {xs : List Value} (h : W.ownsRow (b + 2) e size x n xs) (hb : b' ≤ b + 1) : (W8 (W.setCell ⟨b', 7, none⟩ x) b kd fr rd N v).ownsRow (b + 2) e size x n xs := by
  have k1 : ∀ g, x.ownBlock = some g → g ≠ b' := fun g hg => by have := own_block h g hg; omega
  have k2 : ∀ g, x.ownBlock = some g → g ≠ b := fun g hg => by have := own_block h g hg; omega
  unfold W8
  exact ownsRow_set (ownsRow_set (ownsRow_set (ownsRow_set (ownsRow_set (ownsRow_set (ownsRow_set (ownsRow_set (ownsRow_set h k1 _) k2 _) k2 _) k2 _) k2 _) k2 _) k2 _) k2 _) k2 _
theorem SF.end8 {w W : World} {p : Nat} {ad : Option Addr} {cap : Nat} {bs : List Nat} {i kd fr rd : Nat} {N : Nat} {x : Value} {l : List (Int × Int × Int)} (h : SF w p ad cap bs i kd fr rd N (.slice none 0 0) W) (ho : W.ownsRow (w.heap.size + 2) 80 3 x l.length (fl l)) : FB (W8 (W.setCell ⟨w.heap.size + 1, 7, none⟩ x) w.heap.size kd fr rd N x) w.heap.size kd fr rd N x ∧ FdO p ad cap bs (.ok ((kd, fr, rd, N, l), i)) w (.returned (fv kd fr rd N x)) (W8 (W.setCell ⟨w.heap.size + 1, 7, none⟩ x) w.heap.size kd fr rd N x) := by
  have h7 := h.s7 x
  have hp := h.pl
  refine ⟨h7.f0.set8 _ _ _ _ _, x, rfl, ownsRow_base (own_set8 ho (Nat.le_refl _)) (by omega), ?_, ?_⟩
  · unfold W8
    exact (((((((h7.rr.other hp _ _).other hp _ _).other hp _ _).other hp _ _).other hp _ _).other hp _ _).other hp _ _).other hp _ _
  · unfold W8
    exact (((((((h7.kb.other hp (Nat.le_refl _) _ _).other hp (Nat.le_refl _) _ _).other hp (Nat.le_refl _) _ _).other hp (Nat.le_refl _) _ _).other hp (Nat.le_refl _) _ _).other hp (Nat.le_refl _) _ _).other hp (Nat.le_refl _) _ _).other hp (Nat.le_refl _) _ _
set_option maxHeartbeats 4000000 in
set_option maxRecDepth 100000 in
theorem fd9x {w : World} {p : Nat} {ad : Option Addr} {cap : Nat} {bs : List Nat} (h : Rdr w p ad cap bs 0) (n : Nat) (h1 : 2 ≤ bs.length) (hM : nm bs 0 2 = 25971) (h2 : 3 ≤ bs.length) (K : Nat) (hK : nm bs 2 1 = K) (h3 : 4 ≤ bs.length) (hSz : nm bs 3 1 = n) (h4 : 5 ≤ bs.length) (G : Nat) (hG : nm bs 4 1 = G) (hg1 : G < n) (hk4 : K = 3) (hn : n ≤ 100) (er : Int) (hW : rdW n bs (5) = .error er) : Calls Tryz.prog 26 #[.pointer (some ⟨p, 0, none⟩), .int .i64 (n : Int)] w (FdO p ad cap bs (.error er) w) := by
  have hS0 := sf_start h
  have hm : ∀ W, SF w p ad cap bs 0 0 0 0 0 (.slice none 0 0) W → Calls Tryz.prog 82 #[.pointer (some ⟨p, 0, none⟩), .int .i64 2] W fun e W' => e = .returned (.int .i64 (25971 : Nat)) ∧ SF w p ad cap bs 2 0 0 0 0 (.slice none 0 0) W' := fun W h => by
    have := SF.num h 2 (by decide) (by decide) (by omega)
    rwa [hM] at this
  have hr70 := refuse_no 70
  have hk : ∀ W, SF w p ad cap bs 2 0 0 0 0 (.slice none 0 0) W → Calls Tryz.prog 82 #[.pointer (some ⟨p, 0, none⟩), .int .i64 1] W fun e W' => e = .returned (.int .i64 (K : Nat)) ∧ SF w p ad cap bs 3 0 0 0 0 (.slice none 0 0) W' := fun W h => by
    have := SF.num h 1 (by decide) (by decide) (by omega)
    rwa [hK] at this
  have hr71 := refuse_no 71
  have q0 : decide ((K : Int) < 1) = false := decide_eq_false (by omega)
  have q1 : decide ((3 : Int) < (K : Int)) = false := decide_eq_false (by omega)
  have hs : ∀ W, SF w p ad cap bs 3 K 0 0 0 (.slice none 0 0) W → Calls Tryz.prog 82 #[.pointer (some ⟨p, 0, none⟩), .int .i64 1] W fun e W' => e = .returned (.int .i64 (n : Nat)) ∧ SF w p ad cap bs 4 K 0 0 0 (.slice none 0 0) W' := fun W h => by
    have := SF.num h 1 (by decide) (by decide) (by omega)
    rwa [hSz] at this
  have hr102 := refuse_no 102
  have hf : ∀ W, SF w p ad cap bs 4 K 0 0 0 (.slice none 0 0) W → Calls Tryz.prog 82 #[.pointer (some ⟨p, 0, none⟩), .int .i64 1] W fun e W' => e = .returned (.int .i64 (G : Nat)) ∧ SF w p ad cap bs 5 K 0 0 0 (.slice none 0 0) W' := fun W h => by
    have := SF.num h 1 (by decide) (by decide) (by omega)
    rwa [hG] at this
  have hr72 := refuse_no 72
  have q3 : decide (n ≤ G) = false := decide_eq_false (by omega)
  have hhr : ∀ w, Calls Tryz.prog 83 #[.int .i64 (K : Int)] w _ := hasRound_any K
  rw [decide_eq_false (fun q : K ≠ 3 => q hk4)] at hhr
  have hhh : ∀ w, Calls Tryz.prog 85 #[.int .i64 (K : Int)] w _ := hasHeard_any K
  rw [decide_eq_false (by omega : ¬ K = 2)] at hhh
  clear hk4
  have hx : ∀ W, SF w p ad cap bs 5 K (G : Int) 0 0 (.slice none 0 0) W → Calls Tryz.prog 90 #[.pointer (some ⟨p, 0, none⟩), .int .i64 (n : Int)] W fun e W' => e = .panicked (rfu er) ∧ Kb p w W' := fun W h => SF.newsx h n hn er hW
  obtain ⟨⟨c0, c1, c2, c3, c4, c5, c6, c7⟩, z0, z1, z2, z3, z4, z5, z6, z7⟩ := hS0.facts
  go_enter Tryz.func26, Tryz.ntmps26
  go_wp2_with (first | (go_at_call 82; (with_reducible refine (hm _ hS0).mono ?_); rintro e u1 ⟨rfl, hS1⟩; clear c0 c1 c2 c3 c4 c5 c6 c7 z0 z1 z2 z3 z4 z5 z6 z7; obtain ⟨⟨c0, c1, c2, c3, c4, c5, c6, c7⟩, z0, z1, z2, z3, z4, z5, z6, z7⟩ := hS1.facts) | (go_at_call 81; (with_reducible refine (hr70 _).mono ?_); rintro e ur ⟨rfl, hu⟩; rw [hu]; clear hu ur) | (go_at_call 82; (with_reducible refine (hk _ hS1).mono ?_); rintro e u2 ⟨rfl, hS2⟩; clear c0 c1 c2 c3 c4 c5 c6 c7 z0 z1 z2 z3 z4 z5 z6 z7; obtain ⟨⟨c0, c1, c2, c3, c4, c5, c6, c7⟩, z0, z1, z2, z3, z4, z5, z6, z7⟩ := hS2.facts; have hS3 := hS2.s0 K) | (go_at_call 81; (with_reducible refine (hr71 _).mono ?_); rintro e ur ⟨rfl, hu⟩; rw [hu]; clear hu ur) | (go_at_call 82; (with_reducible refine (hs _ hS3).mono ?_); rintro e u4 ⟨rfl, hS4⟩; clear c0 c1 c2 c3 c4 c5 c6 c7 z0 z1 z2 z3 z4 z5 z6 z7; obtain ⟨⟨c0, c1, c2, c3, c4, c5, c6, c7⟩, z0, z1, z2, z3, z4, z5, z6, z7⟩ := hS4.facts) | (go_at_call 81; (with_reducible refine (hr102 _).mono ?_); rintro e ur ⟨rfl, hu⟩; rw [hu]; clear hu ur) | (go_at_call 82; (with_reducible refine (hf _ hS4).mono ?_); rintro e u5 ⟨rfl, hS5⟩; clear c0 c1 c2 c3 c4 c5 c6 c7 z0 z1 z2 z3 z4 z5 z6 z7; obtain ⟨⟨c0, c1, c2, c3, c4, c5, c6, c7⟩, z0, z1, z2, z3, z4, z5, z6, z7⟩ := hS5.facts; have hS6 := hS5.s1 (G : Int)) | (go_at_call 81; (with_reducible refine (hr72 _).mono ?_); rintro e ur ⟨rfl, hu⟩; rw [hu]; clear hu ur) | (go_at_call 83; (with_reducible refine (hhr _).mono ?_); rintro e ur ⟨rfl, hu⟩; rw [hu]; clear hu ur) | (go_at_call 85; (with_reducible refine (hhh _).mono ?_); rintro e ur ⟨rfl, hu⟩; rw [hu]; clear hu ur) | (go_at_call 90; (with_reducible refine (hx _ hS6).mono ?_); rintro e ux ⟨rfl, hkx⟩))
  exact ⟨rfl, fdo_err rfl hkx⟩
set_option maxHeartbeats 4000000 in
set_option maxRecDepth 100000 in
theorem fd9o {w : World} {p : Nat} {ad : Option Addr} {cap : Nat} {bs : List Nat} (h : Rdr w p ad cap bs 0) (n : Nat) (h1 : 2 ≤ bs.length) (hM : nm bs 0 2 = 25971) (h2 : 3 ≤ bs.length) (K : Nat) (hK : nm bs 2 1 = K) (h3 : 4 ≤ bs.length) (hSz : nm bs 3 1 = n) (h4 : 5 ≤ bs.length) (G : Nat) (hG : nm bs 4 1 = G) (hg1 : G < n) (hk4 : K = 3) (hn : n ≤ 100) (l : List (Int × Int × Int)) (j : Nat) (hW : rdW n bs (5) = .ok (l, j)) : Calls Tryz.prog 26 #[.pointer (some ⟨p, 0, none⟩), .int .i64 (n : Int)] w (FdO p ad cap bs (.ok ((K, G, 0, 0, l), j)) w) := by
  have hS0 := sf_start h
  have hm : ∀ W, SF w p ad cap bs 0 0 0 0 0 (.slice none 0 0) W → Calls Tryz.prog 82 #[.pointer (some ⟨p, 0, none⟩), .int .i64 2] W fun e W' => e = .returned (.int .i64 (25971 : Nat)) ∧ SF w p ad cap bs 2 0 0 0 0 (.slice none 0 0) W' := fun W h => by
    have := SF.num h 2 (by decide) (by decide) (by omega)
    rwa [hM] at this
  have hr70 := refuse_no 70
  have hk : ∀ W, SF w p ad cap bs 2 0 0 0 0 (.slice none 0 0) W → Calls Tryz.prog 82 #[.pointer (some ⟨p, 0, none⟩), .int .i64 1] W fun e W' => e = .returned (.int .i64 (K : Nat)) ∧ SF w p ad cap bs 3 0 0 0 0 (.slice none 0 0) W' := fun W h => by
    have := SF.num h 1 (by decide) (by decide) (by omega)
    rwa [hK] at this
  have hr71 := refuse_no 71
  have q0 : decide ((K : Int) < 1) = false := decide_eq_false (by omega)
  have q1 : decide ((3 : Int) < (K : Int)) = false := decide_eq_false (by omega)
  have hs : ∀ W, SF w p ad cap bs 3 K 0 0 0 (.slice none 0 0) W → Calls Tryz.prog 82 #[.pointer (some ⟨p, 0, none⟩), .int .i64 1] W fun e W' => e = .returned (.int .i64 (n : Nat)) ∧ SF w p ad cap bs 4 K 0 0 0 (.slice none 0 0) W' := fun W h => by
    have := SF.num h 1 (by decide) (by decide) (by omega)
    rwa [hSz] at this
  have hr102 := refuse_no 102
  have hf : ∀ W, SF w p ad cap bs 4 K 0 0 0 (.slice none 0 0) W → Calls Tryz.prog 82 #[.pointer (some ⟨p, 0, none⟩), .int .i64 1] W fun e W' => e = .returned (.int .i64 (G : Nat)) ∧ SF w p ad cap bs 5 K 0 0 0 (.slice none 0 0) W' := fun W h => by
    have := SF.num h 1 (by decide) (by decide) (by omega)
    rwa [hG] at this
  have hr72 := refuse_no 72
  have q3 : decide (n ≤ G) = false := decide_eq_false (by omega)
  have hhr : ∀ w, Calls Tryz.prog 83 #[.int .i64 (K : Int)] w _ := hasRound_any K
  rw [decide_eq_false (fun q : K ≠ 3 => q hk4)] at hhr
  have hhh : ∀ w, Calls Tryz.prog 85 #[.int .i64 (K : Int)] w _ := hasHeard_any K
  rw [decide_eq_false (by omega : ¬ K = 2)] at hhh
  clear hk4
  have ho : ∀ W, SF w p ad cap bs 5 K (G : Int) 0 0 (.slice none 0 0) W → Calls Tryz.prog 90 #[.pointer (some ⟨p, 0, none⟩), .int .i64 (n : Int)] W fun e W' => ∃ a2 c2, e = .returned (.slice a2 l.length c2) ∧ W'.ownsRow (w.heap.size + 2) 80 3 (.slice a2 l.length c2) l.length (fl l) ∧ SF w p ad cap bs j K (G : Int) 0 0 (.slice none 0 0) W' := fun W h => SF.newso h n hn l j hW
  obtain ⟨⟨c0, c1, c2, c3, c4, c5, c6, c7⟩, z0, z1, z2, z3, z4, z5, z6, z7⟩ := hS0.facts
  go_enter Tryz.func26, Tryz.ntmps26
  go_wp2_with (first | (go_at_call 82; (with_reducible refine (hm _ hS0).mono ?_); rintro e u1 ⟨rfl, hS1⟩; clear c0 c1 c2 c3 c4 c5 c6 c7 z0 z1 z2 z3 z4 z5 z6 z7; obtain ⟨⟨c0, c1, c2, c3, c4, c5, c6, c7⟩, z0, z1, z2, z3, z4, z5, z6, z7⟩ := hS1.facts) | (go_at_call 81; (with_reducible refine (hr70 _).mono ?_); rintro e ur ⟨rfl, hu⟩; rw [hu]; clear hu ur) | (go_at_call 82; (with_reducible refine (hk _ hS1).mono ?_); rintro e u2 ⟨rfl, hS2⟩; clear c0 c1 c2 c3 c4 c5 c6 c7 z0 z1 z2 z3 z4 z5 z6 z7; obtain ⟨⟨c0, c1, c2, c3, c4, c5, c6, c7⟩, z0, z1, z2, z3, z4, z5, z6, z7⟩ := hS2.facts; have hS3 := hS2.s0 K) | (go_at_call 81; (with_reducible refine (hr71 _).mono ?_); rintro e ur ⟨rfl, hu⟩; rw [hu]; clear hu ur) | (go_at_call 82; (with_reducible refine (hs _ hS3).mono ?_); rintro e u4 ⟨rfl, hS4⟩; clear c0 c1 c2 c3 c4 c5 c6 c7 z0 z1 z2 z3 z4 z5 z6 z7; obtain ⟨⟨c0, c1, c2, c3, c4, c5, c6, c7⟩, z0, z1, z2, z3, z4, z5, z6, z7⟩ := hS4.facts) | (go_at_call 81; (with_reducible refine (hr102 _).mono ?_); rintro e ur ⟨rfl, hu⟩; rw [hu]; clear hu ur) | (go_at_call 82; (with_reducible refine (hf _ hS4).mono ?_); rintro e u5 ⟨rfl, hS5⟩; clear c0 c1 c2 c3 c4 c5 c6 c7 z0 z1 z2 z3 z4 z5 z6 z7; obtain ⟨⟨c0, c1, c2, c3, c4, c5, c6, c7⟩, z0, z1, z2, z3, z4, z5, z6, z7⟩ := hS5.facts; have hS6 := hS5.s1 (G : Int)) | (go_at_call 81; (with_reducible refine (hr72 _).mono ?_); rintro e ur ⟨rfl, hu⟩; rw [hu]; clear hu ur) | (go_at_call 83; (with_reducible refine (hhr _).mono ?_); rintro e ur ⟨rfl, hu⟩; rw [hu]; clear hu ur) | (go_at_call 85; (with_reducible refine (hhh _).mono ?_); rintro e ur ⟨rfl, hu⟩; rw [hu]; clear hu ur) | (go_at_call 90; (with_reducible refine (ho _ hS6).mono ?_); rintro e uz ⟨ax, cx, rfl, hox, hSz⟩; have hE := SF.end8 (fr := G) (rd := 0) hSz hox; clear c0 c1 c2 c3 c4 c5 c6 c7 z0 z1 z2 z3 z4 z5 z6 z7; obtain ⟨⟨c0, c1, c2, c3, c4, c5, c6, c7⟩, z0, z1, z2, z3, z4, z5, z6, z7⟩ := hSz.facts; obtain ⟨d0, d1, d2, d3, d4, d5, d6, d7⟩ := hSz.f0.cells; have y0 := hSz.f0.thaw 0; have y1 := hSz.f0.thaw 1; have y2 := hSz.f0.thaw 2; have y3 := hSz.f0.thaw 3; have y4 := hSz.f0.thaw 4; have y5 := hSz.f0.thaw 5; have y6 := hSz.f0.thaw 6; have y7 := hSz.f0.thaw 7))
  exact retF rfl rfl rfl hE.1 hE.2
set_option maxHeartbeats 4000000 in
set_option maxRecDepth 100000 in
theorem fd10 {w : World} {p : Nat} {ad : Option Addr} {cap : Nat} {bs : List Nat} (h : Rdr w p ad cap bs 0) (n : Nat) (h1 : 2 ≤ bs.length) (hM : nm bs 0 2 = 25971) (h2 : 3 ≤ bs.length) (K : Nat) (hK : nm bs 2 1 = K) (hk1 : 1 ≤ K) (hk3 : K ≤ 3) (hk4 : K ≠ 3) (h3 : 4 ≤ bs.length) (hSz : nm bs 3 1 = n) (h4 : 5 ≤ bs.length) (G : Nat) (hG : nm bs 4 1 = G) (hg1 : G < n) (h5 : bs.length < 10) : Calls Tryz.prog 26 #[.pointer (some ⟨p, 0, none⟩), .int .i64 (n : Int)] w (FdO p ad cap bs (.error 76) w) := by
  have hS0 := sf_start h
  have hm : ∀ W, SF w p ad cap bs 0 0 0 0 0 (.slice none 0 0) W → Calls Tryz.prog 82 #[.pointer (some ⟨p, 0, none⟩), .int .i64 2] W fun e W' => e = .returned (.int .i64 (25971 : Nat)) ∧ SF w p ad cap bs 2 0 0 0 0 (.slice none 0 0) W' := fun W h => by
    have := SF.num h 2 (by decide) (by decide) (by omega)
    rwa [hM] at this
  have hr70 := refuse_no 70
  have hk : ∀ W, SF w p ad cap bs 2 0 0 0 0 (.slice none 0 0) W → Calls Tryz.prog 82 #[.pointer (some ⟨p, 0, none⟩), .int .i64 1] W fun e W' => e = .returned (.int .i64 (K : Nat)) ∧ SF w p ad cap bs 3 0 0 0 0 (.slice none 0 0) W' := fun W h => by
    have := SF.num h 1 (by decide) (by decide) (by omega)
    rwa [hK] at this
  have hr71 := refuse_no 71
  have q0 : decide ((K : Int) < 1) = false := decide_eq_false (by omega)
  have q1 : decide ((3 : Int) < (K : Int)) = false := decide_eq_false (by omega)
  have hs : ∀ W, SF w p ad cap bs 3 K 0 0 0 (.slice none 0 0) W → Calls Tryz.prog 82 #[.pointer (some ⟨p, 0, none⟩), .int .i64 1] W fun e W' => e = .returned (.int .i64 (n : Nat)) ∧ SF w p ad cap bs 4 K 0 0 0 (.slice none 0 0) W' := fun W h => by
    have := SF.num h 1 (by decide) (by decide) (by omega)
    rwa [hSz] at this
  have hr102 := refuse_no 102
  have hf : ∀ W, SF w p ad cap bs 4 K 0 0 0 (.slice none 0 0) W → Calls Tryz.prog 82 #[.pointer (some ⟨p, 0, none⟩), .int .i64 1] W fun e W' => e = .returned (.int .i64 (G : Nat)) ∧ SF w p ad cap bs 5 K 0 0 0 (.slice none 0 0) W' := fun W h => by
    have := SF.num h 1 (by decide) (by decide) (by omega)
    rwa [hG] at this
  have hr72 := refuse_no 72
  have q3 : decide (n ≤ G) = false := decide_eq_false (by omega)
  have hhr : ∀ w, Calls Tryz.prog 83 #[.int .i64 (K : Int)] w _ := hasRound_any K
  rw [decide_eq_true hk4] at hhr
  have hx : ∀ W, SF w p ad cap bs 5 K (G : Int) 0 0 (.slice none 0 0) W → Calls Tryz.prog 82 #[.pointer (some ⟨p, 0, none⟩), .int .i64 5] W fun e W' => e = .panicked (rfu 76) ∧ Kb p w W' := fun W h => SF.numx h 5 (by omega)
  obtain ⟨⟨c0, c1, c2, c3, c4, c5, c6, c7⟩, z0, z1, z2, z3, z4, z5, z6, z7⟩ := hS0.facts
  go_enter Tryz.func26, Tryz.ntmps26
  go_wp2_with (first | (go_at_call 82; (with_reducible refine (hm _ hS0).mono ?_); rintro e u1 ⟨rfl, hS1⟩; clear c0 c1 c2 c3 c4 c5 c6 c7 z0 z1 z2 z3 z4 z5 z6 z7; obtain ⟨⟨c0, c1, c2, c3, c4, c5, c6, c7⟩, z0, z1, z2, z3, z4, z5, z6, z7⟩ := hS1.facts) | (go_at_call 81; (with_reducible refine (hr70 _).mono ?_); rintro e ur ⟨rfl, hu⟩; rw [hu]; clear hu ur) | (go_at_call 82; (with_reducible refine (hk _ hS1).mono ?_); rintro e u2 ⟨rfl, hS2⟩; clear c0 c1 c2 c3 c4 c5 c6 c7 z0 z1 z2 z3 z4 z5 z6 z7; obtain ⟨⟨c0, c1, c2, c3, c4, c5, c6, c7⟩, z0, z1, z2, z3, z4, z5, z6, z7⟩ := hS2.facts; have hS3 := hS2.s0 K) | (go_at_call 81; (with_reducible refine (hr71 _).mono ?_); rintro e ur ⟨rfl, hu⟩; rw [hu]; clear hu ur) | (go_at_call 82; (with_reducible refine (hs _ hS3).mono ?_); rintro e u4 ⟨rfl, hS4⟩; clear c0 c1 c2 c3 c4 c5 c6 c7 z0 z1 z2 z3 z4 z5 z6 z7; obtain ⟨⟨c0, c1, c2, c3, c4, c5, c6, c7⟩, z0, z1, z2, z3, z4, z5, z6, z7⟩ := hS4.facts) | (go_at_call 81; (with_reducible refine (hr102 _).mono ?_); rintro e ur ⟨rfl, hu⟩; rw [hu]; clear hu ur) | (go_at_call 82; (with_reducible refine (hf _ hS4).mono ?_); rintro e u5 ⟨rfl, hS5⟩; clear c0 c1 c2 c3 c4 c5 c6 c7 z0 z1 z2 z3 z4 z5 z6 z7; obtain ⟨⟨c0, c1, c2, c3, c4, c5, c6, c7⟩, z0, z1, z2, z3, z4, z5, z6, z7⟩ := hS5.facts; have hS6 := hS5.s1 (G : Int)) | (go_at_call 81; (with_reducible refine (hr72 _).mono ?_); rintro e ur ⟨rfl, hu⟩; rw [hu]; clear hu ur) | (go_at_call 83; (with_reducible refine (hhr _).mono ?_); rintro e ur ⟨rfl, hu⟩; rw [hu]; clear hu ur) | (go_at_call 82; (with_reducible refine (hx _ hS6).mono ?_); rintro e ux ⟨rfl, hkx⟩))
  exact ⟨rfl, fdo_err rfl hkx⟩
set_option maxHeartbeats 4000000 in
set_option maxRecDepth 100000 in
theorem fd11 {w : World} {p : Nat} {ad : Option Addr} {cap : Nat} {bs : List Nat} (h : Rdr w p ad cap bs 0) (n : Nat) (h1 : 2 ≤ bs.length) (hM : nm bs 0 2 = 25971) (h2 : 3 ≤ bs.length) (K : Nat) (hK : nm bs 2 1 = K) (hk1 : 1 ≤ K) (hk3 : K ≤ 3) (hk4 : K ≠ 3) (h3 : 4 ≤ bs.length) (hSz : nm bs 3 1 = n) (h4 : 5 ≤ bs.length) (G : Nat) (hG : nm bs 4 1 = G) (hg1 : G < n) (h5 : 10 ≤ bs.length) (Rd : Nat) (hRd : nm bs 5 5 = Rd) (hrd : ¬ (1 ≤ Rd ∧ Rd ≤ 1099511627775)) : Calls Tryz.prog 26 #[.pointer (some ⟨p, 0, none⟩), .int .i64 (n : Int)] w (FdO p ad cap bs (.error 73) w) := by
  have hS0 := sf_start h
  have hm : ∀ W, SF w p ad cap bs 0 0 0 0 0 (.slice none 0 0) W → Calls Tryz.prog 82 #[.pointer (some ⟨p, 0, none⟩), .int .i64 2] W fun e W' => e = .returned (.int .i64 (25971 : Nat)) ∧ SF w p ad cap bs 2 0 0 0 0 (.slice none 0 0) W' := fun W h => by
    have := SF.num h 2 (by decide) (by decide) (by omega)
    rwa [hM] at this
  have hr70 := refuse_no 70
  have hk : ∀ W, SF w p ad cap bs 2 0 0 0 0 (.slice none 0 0) W → Calls Tryz.prog 82 #[.pointer (some ⟨p, 0, none⟩), .int .i64 1] W fun e W' => e = .returned (.int .i64 (K : Nat)) ∧ SF w p ad cap bs 3 0 0 0 0 (.slice none 0 0) W' := fun W h => by
    have := SF.num h 1 (by decide) (by decide) (by omega)
    rwa [hK] at this
  have hr71 := refuse_no 71
  have q0 : decide ((K : Int) < 1) = false := decide_eq_false (by omega)
  have q1 : decide ((3 : Int) < (K : Int)) = false := decide_eq_false (by omega)
  have hs : ∀ W, SF w p ad cap bs 3 K 0 0 0 (.slice none 0 0) W → Calls Tryz.prog 82 #[.pointer (some ⟨p, 0, none⟩), .int .i64 1] W fun e W' => e = .returned (.int .i64 (n : Nat)) ∧ SF w p ad cap bs 4 K 0 0 0 (.slice none 0 0) W' := fun W h => by
    have := SF.num h 1 (by decide) (by decide) (by omega)
    rwa [hSz] at this
  have hr102 := refuse_no 102
  have hf : ∀ W, SF w p ad cap bs 4 K 0 0 0 (.slice none 0 0) W → Calls Tryz.prog 82 #[.pointer (some ⟨p, 0, none⟩), .int .i64 1] W fun e W' => e = .returned (.int .i64 (G : Nat)) ∧ SF w p ad cap bs 5 K 0 0 0 (.slice none 0 0) W' := fun W h => by
    have := SF.num h 1 (by decide) (by decide) (by omega)
    rwa [hG] at this
  have hr72 := refuse_no 72
  have q3 : decide (n ≤ G) = false := decide_eq_false (by omega)
  have hhr : ∀ w, Calls Tryz.prog 83 #[.int .i64 (K : Int)] w _ := hasRound_any K
  rw [decide_eq_true hk4] at hhr
  have hq : ∀ W, SF w p ad cap bs 5 K (G : Int) 0 0 (.slice none 0 0) W → Calls Tryz.prog 82 #[.pointer (some ⟨p, 0, none⟩), .int .i64 5] W fun e W' => e = .returned (.int .i64 (Rd : Nat)) ∧ SF w p ad cap bs 10 K (G : Int) 0 0 (.slice none 0 0) W' := fun W h => by
    have := SF.num h 5 (by decide) (by decide) (by omega)
    rwa [hRd] at this
  have hir : ∀ w, Calls Tryz.prog 84 #[.int .i64 (Rd : Int)] w _ := isRound_any (Rd : Int)
  rw [decide_eq_false (by omega)] at hir
  have hr73 := refuse_yes 73
  obtain ⟨⟨c0, c1, c2, c3, c4, c5, c6, c7⟩, z0, z1, z2, z3, z4, z5, z6, z7⟩ := hS0.facts
  go_enter Tryz.func26, Tryz.ntmps26
  go_wp2_with (first | (go_at_call 82; (with_reducible refine (hm _ hS0).mono ?_); rintro e u1 ⟨rfl, hS1⟩; clear c0 c1 c2 c3 c4 c5 c6 c7 z0 z1 z2 z3 z4 z5 z6 z7; obtain ⟨⟨c0, c1, c2, c3, c4, c5, c6, c7⟩, z0, z1, z2, z3, z4, z5, z6, z7⟩ := hS1.facts) | (go_at_call 81; (with_reducible refine (hr70 _).mono ?_); rintro e ur ⟨rfl, hu⟩; rw [hu]; clear hu ur) | (go_at_call 82; (with_reducible refine (hk _ hS1).mono ?_); rintro e u2 ⟨rfl, hS2⟩; clear c0 c1 c2 c3 c4 c5 c6 c7 z0 z1 z2 z3 z4 z5 z6 z7; obtain ⟨⟨c0, c1, c2, c3, c4, c5, c6, c7⟩, z0, z1, z2, z3, z4, z5, z6, z7⟩ := hS2.facts; have hS3 := hS2.s0 K) | (go_at_call 81; (with_reducible refine (hr71 _).mono ?_); rintro e ur ⟨rfl, hu⟩; rw [hu]; clear hu ur) | (go_at_call 82; (with_reducible refine (hs _ hS3).mono ?_); rintro e u4 ⟨rfl, hS4⟩; clear c0 c1 c2 c3 c4 c5 c6 c7 z0 z1 z2 z3 z4 z5 z6 z7; obtain ⟨⟨c0, c1, c2, c3, c4, c5, c6, c7⟩, z0, z1, z2, z3, z4, z5, z6, z7⟩ := hS4.facts) | (go_at_call 81; (with_reducible refine (hr102 _).mono ?_); rintro e ur ⟨rfl, hu⟩; rw [hu]; clear hu ur) | (go_at_call 82; (with_reducible refine (hf _ hS4).mono ?_); rintro e u5 ⟨rfl, hS5⟩; clear c0 c1 c2 c3 c4 c5 c6 c7 z0 z1 z2 z3 z4 z5 z6 z7; obtain ⟨⟨c0, c1, c2, c3, c4, c5, c6, c7⟩, z0, z1, z2, z3, z4, z5, z6, z7⟩ := hS5.facts; have hS6 := hS5.s1 (G : Int)) | (go_at_call 81; (with_reducible refine (hr72 _).mono ?_); rintro e ur ⟨rfl, hu⟩; rw [hu]; clear hu ur) | (go_at_call 83; (with_reducible refine (hhr _).mono ?_); rintro e ur ⟨rfl, hu⟩; rw [hu]; clear hu ur) | (go_at_call 82; (with_reducible refine (hq _ hS6).mono ?_); rintro e u7 ⟨rfl, hS7⟩; clear c0 c1 c2 c3 c4 c5 c6 c7 z0 z1 z2 z3 z4 z5 z6 z7; obtain ⟨⟨c0, c1, c2, c3, c4, c5, c6, c7⟩, z0, z1, z2, z3, z4, z5, z6, z7⟩ := hS7.facts; have hS8 := hS7.s2 (Rd : Int)) | (go_at_call 84; (with_reducible refine (hir _).mono ?_); rintro e ur ⟨rfl, hu⟩; rw [hu]; clear hu ur) | (go_at_call 81; (with_reducible refine (hr73 _).mono ?_); rintro e ur ⟨rfl, hu⟩; rw [hu]; clear hu ur))
  exact ⟨rfl, fdo_err rfl hS8.kb⟩
set_option maxHeartbeats 4000000 in
set_option maxRecDepth 100000 in
theorem fd12x {w : World} {p : Nat} {ad : Option Addr} {cap : Nat} {bs : List Nat} (h : Rdr w p ad cap bs 0) (n : Nat) (h1 : 2 ≤ bs.length) (hM : nm bs 0 2 = 25971) (h2 : 3 ≤ bs.length) (K : Nat) (hK : nm bs 2 1 = K) (hk1 : 1 ≤ K) (hk3 : K ≤ 3) (hk4 : K ≠ 3) (h3 : 4 ≤ bs.length) (hSz : nm bs 3 1 = n) (h4 : 5 ≤ bs.length) (G : Nat) (hG : nm bs 4 1 = G) (hg1 : G < n) (h5 : 10 ≤ bs.length) (Rd : Nat) (hRd : nm bs 5 5 = Rd) (hrd : 1 ≤ Rd ∧ Rd ≤ 1099511627775) (hk5 : ¬ K = 2) (hn : n ≤ 100) (er : Int) (hW : rdW n bs (10) = .error er) : Calls Tryz.prog 26 #[.pointer (some ⟨p, 0, none⟩), .int .i64 (n : Int)] w (FdO p ad cap bs (.error er) w) := by
  have hS0 := sf_start h
  have hm : ∀ W, SF w p ad cap bs 0 0 0 0 0 (.slice none 0 0) W → Calls Tryz.prog 82 #[.pointer (some ⟨p, 0, none⟩), .int .i64 2] W fun e W' => e = .returned (.int .i64 (25971 : Nat)) ∧ SF w p ad cap bs 2 0 0 0 0 (.slice none 0 0) W' := fun W h => by
    have := SF.num h 2 (by decide) (by decide) (by omega)
    rwa [hM] at this
  have hr70 := refuse_no 70
  have hk : ∀ W, SF w p ad cap bs 2 0 0 0 0 (.slice none 0 0) W → Calls Tryz.prog 82 #[.pointer (some ⟨p, 0, none⟩), .int .i64 1] W fun e W' => e = .returned (.int .i64 (K : Nat)) ∧ SF w p ad cap bs 3 0 0 0 0 (.slice none 0 0) W' := fun W h => by
    have := SF.num h 1 (by decide) (by decide) (by omega)
    rwa [hK] at this
  have hr71 := refuse_no 71
  have q0 : decide ((K : Int) < 1) = false := decide_eq_false (by omega)
  have q1 : decide ((3 : Int) < (K : Int)) = false := decide_eq_false (by omega)
  have hs : ∀ W, SF w p ad cap bs 3 K 0 0 0 (.slice none 0 0) W → Calls Tryz.prog 82 #[.pointer (some ⟨p, 0, none⟩), .int .i64 1] W fun e W' => e = .returned (.int .i64 (n : Nat)) ∧ SF w p ad cap bs 4 K 0 0 0 (.slice none 0 0) W' := fun W h => by
    have := SF.num h 1 (by decide) (by decide) (by omega)
    rwa [hSz] at this
  have hr102 := refuse_no 102
  have hf : ∀ W, SF w p ad cap bs 4 K 0 0 0 (.slice none 0 0) W → Calls Tryz.prog 82 #[.pointer (some ⟨p, 0, none⟩), .int .i64 1] W fun e W' => e = .returned (.int .i64 (G : Nat)) ∧ SF w p ad cap bs 5 K 0 0 0 (.slice none 0 0) W' := fun W h => by
    have := SF.num h 1 (by decide) (by decide) (by omega)
    rwa [hG] at this
  have hr72 := refuse_no 72
  have q3 : decide (n ≤ G) = false := decide_eq_false (by omega)
  have hhr : ∀ w, Calls Tryz.prog 83 #[.int .i64 (K : Int)] w _ := hasRound_any K
  rw [decide_eq_true hk4] at hhr
  have hq : ∀ W, SF w p ad cap bs 5 K (G : Int) 0 0 (.slice none 0 0) W → Calls Tryz.prog 82 #[.pointer (some ⟨p, 0, none⟩), .int .i64 5] W fun e W' => e = .returned (.int .i64 (Rd : Nat)) ∧ SF w p ad cap bs 10 K (G : Int) 0 0 (.slice none 0 0) W' := fun W h => by
    have := SF.num h 5 (by decide) (by decide) (by omega)
    rwa [hRd] at this
  have hir : ∀ w, Calls Tryz.prog 84 #[.int .i64 (Rd : Int)] w _ := isRound_any (Rd : Int)
  rw [decide_eq_true (by omega)] at hir
  have hr73 := refuse_no 73
  have hhh : ∀ w, Calls Tryz.prog 85 #[.int .i64 (K : Int)] w _ := hasHeard_any K
  rw [decide_eq_false hk5] at hhh
  have hx : ∀ W, SF w p ad cap bs 10 K (G : Int) (Rd : Int) 0 (.slice none 0 0) W → Calls Tryz.prog 90 #[.pointer (some ⟨p, 0, none⟩), .int .i64 (n : Int)] W fun e W' => e = .panicked (rfu er) ∧ Kb p w W' := fun W h => SF.newsx h n hn er hW
  obtain ⟨⟨c0, c1, c2, c3, c4, c5, c6, c7⟩, z0, z1, z2, z3, z4, z5, z6, z7⟩ := hS0.facts
  go_enter Tryz.func26, Tryz.ntmps26
  go_wp2_with (first | (go_at_call 82; (with_reducible refine (hm _ hS0).mono ?_); rintro e u1 ⟨rfl, hS1⟩; clear c0 c1 c2 c3 c4 c5 c6 c7 z0 z1 z2 z3 z4 z5 z6 z7; obtain ⟨⟨c0, c1, c2, c3, c4, c5, c6, c7⟩, z0, z1, z2, z3, z4, z5, z6, z7⟩ := hS1.facts) | (go_at_call 81; (with_reducible refine (hr70 _).mono ?_); rintro e ur ⟨rfl, hu⟩; rw [hu]; clear hu ur) | (go_at_call 82; (with_reducible refine (hk _ hS1).mono ?_); rintro e u2 ⟨rfl, hS2⟩; clear c0 c1 c2 c3 c4 c5 c6 c7 z0 z1 z2 z3 z4 z5 z6 z7; obtain ⟨⟨c0, c1, c2, c3, c4, c5, c6, c7⟩, z0, z1, z2, z3, z4, z5, z6, z7⟩ := hS2.facts; have hS3 := hS2.s0 K) | (go_at_call 81; (with_reducible refine (hr71 _).mono ?_); rintro e ur ⟨rfl, hu⟩; rw [hu]; clear hu ur) | (go_at_call 82; (with_reducible refine (hs _ hS3).mono ?_); rintro e u4 ⟨rfl, hS4⟩; clear c0 c1 c2 c3 c4 c5 c6 c7 z0 z1 z2 z3 z4 z5 z6 z7; obtain ⟨⟨c0, c1, c2, c3, c4, c5, c6, c7⟩, z0, z1, z2, z3, z4, z5, z6, z7⟩ := hS4.facts) | (go_at_call 81; (with_reducible refine (hr102 _).mono ?_); rintro e ur ⟨rfl, hu⟩; rw [hu]; clear hu ur) | (go_at_call 82; (with_reducible refine (hf _ hS4).mono ?_); rintro e u5 ⟨rfl, hS5⟩; clear c0 c1 c2 c3 c4 c5 c6 c7 z0 z1 z2 z3 z4 z5 z6 z7; obtain ⟨⟨c0, c1, c2, c3, c4, c5, c6, c7⟩, z0, z1, z2, z3, z4, z5, z6, z7⟩ := hS5.facts; have hS6 := hS5.s1 (G : Int)) | (go_at_call 81; (with_reducible refine (hr72 _).mono ?_); rintro e ur ⟨rfl, hu⟩; rw [hu]; clear hu ur) | (go_at_call 83; (with_reducible refine (hhr _).mono ?_); rintro e ur ⟨rfl, hu⟩; rw [hu]; clear hu ur) | (go_at_call 82; (with_reducible refine (hq _ hS6).mono ?_); rintro e u7 ⟨rfl, hS7⟩; clear c0 c1 c2 c3 c4 c5 c6 c7 z0 z1 z2 z3 z4 z5 z6 z7; obtain ⟨⟨c0, c1, c2, c3, c4, c5, c6, c7⟩, z0, z1, z2, z3, z4, z5, z6, z7⟩ := hS7.facts; have hS8 := hS7.s2 (Rd : Int)) | (go_at_call 84; (with_reducible refine (hir _).mono ?_); rintro e ur ⟨rfl, hu⟩; rw [hu]; clear hu ur) | (go_at_call 81; (with_reducible refine (hr73 _).mono ?_); rintro e ur ⟨rfl, hu⟩; rw [hu]; clear hu ur) | (go_at_call 85; (with_reducible refine (hhh _).mono ?_); rintro e ur ⟨rfl, hu⟩; rw [hu]; clear hu ur) | (go_at_call 90; (with_reducible refine (hx _ hS8).mono ?_); rintro e ux ⟨rfl, hkx⟩))
  exact ⟨rfl, fdo_err rfl hkx⟩
set_option maxHeartbeats 4000000 in
set_option maxRecDepth 100000 in
theorem fd12o {w : World} {p : Nat} {ad : Option Addr} {cap : Nat} {bs : List Nat} (h : Rdr w p ad cap bs 0) (n : Nat) (h1 : 2 ≤ bs.length) (hM : nm bs 0 2 = 25971) (h2 : 3 ≤ bs.length) (K : Nat) (hK : nm bs 2 1 = K) (hk1 : 1 ≤ K) (hk3 : K ≤ 3) (hk4 : K ≠ 3) (h3 : 4 ≤ bs.length) (hSz : nm bs 3 1 = n) (h4 : 5 ≤ bs.length) (G : Nat) (hG : nm bs 4 1 = G) (hg1 : G < n) (h5 : 10 ≤ bs.length) (Rd : Nat) (hRd : nm bs 5 5 = Rd) (hrd : 1 ≤ Rd ∧ Rd ≤ 1099511627775) (hk5 : ¬ K = 2) (hn : n ≤ 100) (l : List (Int × Int × Int)) (j : Nat) (hW : rdW n bs (10) = .ok (l, j)) : Calls Tryz.prog 26 #[.pointer (some ⟨p, 0, none⟩), .int .i64 (n : Int)] w (FdO p ad cap bs (.ok ((K, G, Rd, 0, l), j)) w) := by
  have hS0 := sf_start h
  have hm : ∀ W, SF w p ad cap bs 0 0 0 0 0 (.slice none 0 0) W → Calls Tryz.prog 82 #[.pointer (some ⟨p, 0, none⟩), .int .i64 2] W fun e W' => e = .returned (.int .i64 (25971 : Nat)) ∧ SF w p ad cap bs 2 0 0 0 0 (.slice none 0 0) W' := fun W h => by
    have := SF.num h 2 (by decide) (by decide) (by omega)
    rwa [hM] at this
  have hr70 := refuse_no 70
  have hk : ∀ W, SF w p ad cap bs 2 0 0 0 0 (.slice none 0 0) W → Calls Tryz.prog 82 #[.pointer (some ⟨p, 0, none⟩), .int .i64 1] W fun e W' => e = .returned (.int .i64 (K : Nat)) ∧ SF w p ad cap bs 3 0 0 0 0 (.slice none 0 0) W' := fun W h => by
    have := SF.num h 1 (by decide) (by decide) (by omega)
    rwa [hK] at this
  have hr71 := refuse_no 71
  have q0 : decide ((K : Int) < 1) = false := decide_eq_false (by omega)
  have q1 : decide ((3 : Int) < (K : Int)) = false := decide_eq_false (by omega)
  have hs : ∀ W, SF w p ad cap bs 3 K 0 0 0 (.slice none 0 0) W → Calls Tryz.prog 82 #[.pointer (some ⟨p, 0, none⟩), .int .i64 1] W fun e W' => e = .returned (.int .i64 (n : Nat)) ∧ SF w p ad cap bs 4 K 0 0 0 (.slice none 0 0) W' := fun W h => by
    have := SF.num h 1 (by decide) (by decide) (by omega)
    rwa [hSz] at this
  have hr102 := refuse_no 102
  have hf : ∀ W, SF w p ad cap bs 4 K 0 0 0 (.slice none 0 0) W → Calls Tryz.prog 82 #[.pointer (some ⟨p, 0, none⟩), .int .i64 1] W fun e W' => e = .returned (.int .i64 (G : Nat)) ∧ SF w p ad cap bs 5 K 0 0 0 (.slice none 0 0) W' := fun W h => by
    have := SF.num h 1 (by decide) (by decide) (by omega)
    rwa [hG] at this
  have hr72 := refuse_no 72
  have q3 : decide (n ≤ G) = false := decide_eq_false (by omega)
  have hhr : ∀ w, Calls Tryz.prog 83 #[.int .i64 (K : Int)] w _ := hasRound_any K
  rw [decide_eq_true hk4] at hhr
  have hq : ∀ W, SF w p ad cap bs 5 K (G : Int) 0 0 (.slice none 0 0) W → Calls Tryz.prog 82 #[.pointer (some ⟨p, 0, none⟩), .int .i64 5] W fun e W' => e = .returned (.int .i64 (Rd : Nat)) ∧ SF w p ad cap bs 10 K (G : Int) 0 0 (.slice none 0 0) W' := fun W h => by
    have := SF.num h 5 (by decide) (by decide) (by omega)
    rwa [hRd] at this
  have hir : ∀ w, Calls Tryz.prog 84 #[.int .i64 (Rd : Int)] w _ := isRound_any (Rd : Int)
  rw [decide_eq_true (by omega)] at hir
  have hr73 := refuse_no 73
  have hhh : ∀ w, Calls Tryz.prog 85 #[.int .i64 (K : Int)] w _ := hasHeard_any K
  rw [decide_eq_false hk5] at hhh
  have ho : ∀ W, SF w p ad cap bs 10 K (G : Int) (Rd : Int) 0 (.slice none 0 0) W → Calls Tryz.prog 90 #[.pointer (some ⟨p, 0, none⟩), .int .i64 (n : Int)] W fun e W' => ∃ a2 c2, e = .returned (.slice a2 l.length c2) ∧ W'.ownsRow (w.heap.size + 2) 80 3 (.slice a2 l.length c2) l.length (fl l) ∧ SF w p ad cap bs j K (G : Int) (Rd : Int) 0 (.slice none 0 0) W' := fun W h => SF.newso h n hn l j hW
  obtain ⟨⟨c0, c1, c2, c3, c4, c5, c6, c7⟩, z0, z1, z2, z3, z4, z5, z6, z7⟩ := hS0.facts
  go_enter Tryz.func26, Tryz.ntmps26
  go_wp2_with (first | (go_at_call 82; (with_reducible refine (hm _ hS0).mono ?_); rintro e u1 ⟨rfl, hS1⟩; clear c0 c1 c2 c3 c4 c5 c6 c7 z0 z1 z2 z3 z4 z5 z6 z7; obtain ⟨⟨c0, c1, c2, c3, c4, c5, c6, c7⟩, z0, z1, z2, z3, z4, z5, z6, z7⟩ := hS1.facts) | (go_at_call 81; (with_reducible refine (hr70 _).mono ?_); rintro e ur ⟨rfl, hu⟩; rw [hu]; clear hu ur) | (go_at_call 82; (with_reducible refine (hk _ hS1).mono ?_); rintro e u2 ⟨rfl, hS2⟩; clear c0 c1 c2 c3 c4 c5 c6 c7 z0 z1 z2 z3 z4 z5 z6 z7; obtain ⟨⟨c0, c1, c2, c3, c4, c5, c6, c7⟩, z0, z1, z2, z3, z4, z5, z6, z7⟩ := hS2.facts; have hS3 := hS2.s0 K) | (go_at_call 81; (with_reducible refine (hr71 _).mono ?_); rintro e ur ⟨rfl, hu⟩; rw [hu]; clear hu ur) | (go_at_call 82; (with_reducible refine (hs _ hS3).mono ?_); rintro e u4 ⟨rfl, hS4⟩; clear c0 c1 c2 c3 c4 c5 c6 c7 z0 z1 z2 z3 z4 z5 z6 z7; obtain ⟨⟨c0, c1, c2, c3, c4, c5, c6, c7⟩, z0, z1, z2, z3, z4, z5, z6, z7⟩ := hS4.facts) | (go_at_call 81; (with_reducible refine (hr102 _).mono ?_); rintro e ur ⟨rfl, hu⟩; rw [hu]; clear hu ur) | (go_at_call 82; (with_reducible refine (hf _ hS4).mono ?_); rintro e u5 ⟨rfl, hS5⟩; clear c0 c1 c2 c3 c4 c5 c6 c7 z0 z1 z2 z3 z4 z5 z6 z7; obtain ⟨⟨c0, c1, c2, c3, c4, c5, c6, c7⟩, z0, z1, z2, z3, z4, z5, z6, z7⟩ := hS5.facts; have hS6 := hS5.s1 (G : Int)) | (go_at_call 81; (with_reducible refine (hr72 _).mono ?_); rintro e ur ⟨rfl, hu⟩; rw [hu]; clear hu ur) | (go_at_call 83; (with_reducible refine (hhr _).mono ?_); rintro e ur ⟨rfl, hu⟩; rw [hu]; clear hu ur) | (go_at_call 82; (with_reducible refine (hq _ hS6).mono ?_); rintro e u7 ⟨rfl, hS7⟩; clear c0 c1 c2 c3 c4 c5 c6 c7 z0 z1 z2 z3 z4 z5 z6 z7; obtain ⟨⟨c0, c1, c2, c3, c4, c5, c6, c7⟩, z0, z1, z2, z3, z4, z5, z6, z7⟩ := hS7.facts; have hS8 := hS7.s2 (Rd : Int)) | (go_at_call 84; (with_reducible refine (hir _).mono ?_); rintro e ur ⟨rfl, hu⟩; rw [hu]; clear hu ur) | (go_at_call 81; (with_reducible refine (hr73 _).mono ?_); rintro e ur ⟨rfl, hu⟩; rw [hu]; clear hu ur) | (go_at_call 85; (with_reducible refine (hhh _).mono ?_); rintro e ur ⟨rfl, hu⟩; rw [hu]; clear hu ur) | (go_at_call 90; (with_reducible refine (ho _ hS8).mono ?_); rintro e uz ⟨ax, cx, rfl, hox, hSz⟩; have hE := SF.end8 (fr := G) (rd := Rd) hSz hox; clear c0 c1 c2 c3 c4 c5 c6 c7 z0 z1 z2 z3 z4 z5 z6 z7; obtain ⟨⟨c0, c1, c2, c3, c4, c5, c6, c7⟩, z0, z1, z2, z3, z4, z5, z6, z7⟩ := hSz.facts; obtain ⟨d0, d1, d2, d3, d4, d5, d6, d7⟩ := hSz.f0.cells; have y0 := hSz.f0.thaw 0; have y1 := hSz.f0.thaw 1; have y2 := hSz.f0.thaw 2; have y3 := hSz.f0.thaw 3; have y4 := hSz.f0.thaw 4; have y5 := hSz.f0.thaw 5; have y6 := hSz.f0.thaw 6; have y7 := hSz.f0.thaw 7))
  exact retF rfl rfl rfl hE.1 hE.2
set_option maxHeartbeats 4000000 in
set_option maxRecDepth 100000 in
theorem fd13 {w : World} {p : Nat} {ad : Option Addr} {cap : Nat} {bs : List Nat} (h : Rdr w p ad cap bs 0) (n : Nat) (h1 : 2 ≤ bs.length) (hM : nm bs 0 2 = 25971) (h2 : 3 ≤ bs.length) (K : Nat) (hK : nm bs 2 1 = K) (hk4 : K ≠ 3) (h3 : 4 ≤ bs.length) (hSz : nm bs 3 1 = n) (h4 : 5 ≤ bs.length) (G : Nat) (hG : nm bs 4 1 = G) (hg1 : G < n) (h5 : 10 ≤ bs.length) (Rd : Nat) (hRd : nm bs 5 5 = Rd) (hrd : 1 ≤ Rd ∧ Rd ≤ 1099511627775) (hk5 : K = 2) (hn : n ≤ 100) (hn1 : 1 ≤ n) (h6 : bs.length < 10 + hsz n) : Calls Tryz.prog 26 #[.pointer (some ⟨p, 0, none⟩), .int .i64 (n : Int)] w (FdO p ad cap bs (.error 76) w) := by
  have hS0 := sf_start h
  have hm : ∀ W, SF w p ad cap bs 0 0 0 0 0 (.slice none 0 0) W → Calls Tryz.prog 82 #[.pointer (some ⟨p, 0, none⟩), .int .i64 2] W fun e W' => e = .returned (.int .i64 (25971 : Nat)) ∧ SF w p ad cap bs 2 0 0 0 0 (.slice none 0 0) W' := fun W h => by
    have := SF.num h 2 (by decide) (by decide) (by omega)
    rwa [hM] at this
  have hr70 := refuse_no 70
  have hk : ∀ W, SF w p ad cap bs 2 0 0 0 0 (.slice none 0 0) W → Calls Tryz.prog 82 #[.pointer (some ⟨p, 0, none⟩), .int .i64 1] W fun e W' => e = .returned (.int .i64 (K : Nat)) ∧ SF w p ad cap bs 3 0 0 0 0 (.slice none 0 0) W' := fun W h => by
    have := SF.num h 1 (by decide) (by decide) (by omega)
    rwa [hK] at this
  have hr71 := refuse_no 71
  have q0 : decide ((K : Int) < 1) = false := decide_eq_false (by omega)
  have q1 : decide ((3 : Int) < (K : Int)) = false := decide_eq_false (by omega)
  have hs : ∀ W, SF w p ad cap bs 3 K 0 0 0 (.slice none 0 0) W → Calls Tryz.prog 82 #[.pointer (some ⟨p, 0, none⟩), .int .i64 1] W fun e W' => e = .returned (.int .i64 (n : Nat)) ∧ SF w p ad cap bs 4 K 0 0 0 (.slice none 0 0) W' := fun W h => by
    have := SF.num h 1 (by decide) (by decide) (by omega)
    rwa [hSz] at this
  have hr102 := refuse_no 102
  have hf : ∀ W, SF w p ad cap bs 4 K 0 0 0 (.slice none 0 0) W → Calls Tryz.prog 82 #[.pointer (some ⟨p, 0, none⟩), .int .i64 1] W fun e W' => e = .returned (.int .i64 (G : Nat)) ∧ SF w p ad cap bs 5 K 0 0 0 (.slice none 0 0) W' := fun W h => by
    have := SF.num h 1 (by decide) (by decide) (by omega)
    rwa [hG] at this
  have hr72 := refuse_no 72
  have q3 : decide (n ≤ G) = false := decide_eq_false (by omega)
  have hhr : ∀ w, Calls Tryz.prog 83 #[.int .i64 (K : Int)] w _ := hasRound_any K
  rw [decide_eq_true hk4] at hhr
  have hq : ∀ W, SF w p ad cap bs 5 K (G : Int) 0 0 (.slice none 0 0) W → Calls Tryz.prog 82 #[.pointer (some ⟨p, 0, none⟩), .int .i64 5] W fun e W' => e = .returned (.int .i64 (Rd : Nat)) ∧ SF w p ad cap bs 10 K (G : Int) 0 0 (.slice none 0 0) W' := fun W h => by
    have := SF.num h 5 (by decide) (by decide) (by omega)
    rwa [hRd] at this
  have hir : ∀ w, Calls Tryz.prog 84 #[.int .i64 (Rd : Int)] w _ := isRound_any (Rd : Int)
  rw [decide_eq_true (by omega)] at hir
  have hr73 := refuse_no 73
  have hhh : ∀ w, Calls Tryz.prog 85 #[.int .i64 (K : Int)] w _ := hasHeard_any K
  rw [decide_eq_true hk5] at hhh
  clear hk5
  have hhs : ∀ w, Calls Tryz.prog 88 #[.int .i64 (n : Int)] w _ := heardSize_any n hn
  obtain ⟨Z, hZ⟩ : ∃ Z, hsz n = Z := ⟨_, rfl⟩
  have hZ0 : 0 < Z := by rw [← hZ]; unfold hsz; omega
  have hZ13 : Z ≤ 13 := by rw [← hZ]; exact hsz_le hn
  rw [hZ] at hhs
  have hx : ∀ W, SF w p ad cap bs 10 K (G : Int) (Rd : Int) 0 (.slice none 0 0) W → Calls Tryz.prog 87 #[.pointer (some ⟨p, 0, none⟩), .int .i64 (Z : Int)] W fun e W' => e = .panicked (rfu 76) ∧ Kb p w W' := fun W h => (take_no h.rr Z (by omega)).mono (by rintro e W' ⟨rfl, hb⟩; exact ⟨rfl, (h.below hb).kb⟩)
  clear hZ
  obtain ⟨⟨c0, c1, c2, c3, c4, c5, c6, c7⟩, z0, z1, z2, z3, z4, z5, z6, z7⟩ := hS0.facts
  go_enter Tryz.func26, Tryz.ntmps26
  go_wp2_with (first | (go_at_call 82; (with_reducible refine (hm _ hS0).mono ?_); rintro e u1 ⟨rfl, hS1⟩; clear c0 c1 c2 c3 c4 c5 c6 c7 z0 z1 z2 z3 z4 z5 z6 z7; obtain ⟨⟨c0, c1, c2, c3, c4, c5, c6, c7⟩, z0, z1, z2, z3, z4, z5, z6, z7⟩ := hS1.facts) | (go_at_call 81; (with_reducible refine (hr70 _).mono ?_); rintro e ur ⟨rfl, hu⟩; rw [hu]; clear hu ur) | (go_at_call 82; (with_reducible refine (hk _ hS1).mono ?_); rintro e u2 ⟨rfl, hS2⟩; clear c0 c1 c2 c3 c4 c5 c6 c7 z0 z1 z2 z3 z4 z5 z6 z7; obtain ⟨⟨c0, c1, c2, c3, c4, c5, c6, c7⟩, z0, z1, z2, z3, z4, z5, z6, z7⟩ := hS2.facts; have hS3 := hS2.s0 K) | (go_at_call 81; (with_reducible refine (hr71 _).mono ?_); rintro e ur ⟨rfl, hu⟩; rw [hu]; clear hu ur) | (go_at_call 82; (with_reducible refine (hs _ hS3).mono ?_); rintro e u4 ⟨rfl, hS4⟩; clear c0 c1 c2 c3 c4 c5 c6 c7 z0 z1 z2 z3 z4 z5 z6 z7; obtain ⟨⟨c0, c1, c2, c3, c4, c5, c6, c7⟩, z0, z1, z2, z3, z4, z5, z6, z7⟩ := hS4.facts) | (go_at_call 81; (with_reducible refine (hr102 _).mono ?_); rintro e ur ⟨rfl, hu⟩; rw [hu]; clear hu ur) | (go_at_call 82; (with_reducible refine (hf _ hS4).mono ?_); rintro e u5 ⟨rfl, hS5⟩; clear c0 c1 c2 c3 c4 c5 c6 c7 z0 z1 z2 z3 z4 z5 z6 z7; obtain ⟨⟨c0, c1, c2, c3, c4, c5, c6, c7⟩, z0, z1, z2, z3, z4, z5, z6, z7⟩ := hS5.facts; have hS6 := hS5.s1 (G : Int)) | (go_at_call 81; (with_reducible refine (hr72 _).mono ?_); rintro e ur ⟨rfl, hu⟩; rw [hu]; clear hu ur) | (go_at_call 83; (with_reducible refine (hhr _).mono ?_); rintro e ur ⟨rfl, hu⟩; rw [hu]; clear hu ur) | (go_at_call 82; (with_reducible refine (hq _ hS6).mono ?_); rintro e u7 ⟨rfl, hS7⟩; clear c0 c1 c2 c3 c4 c5 c6 c7 z0 z1 z2 z3 z4 z5 z6 z7; obtain ⟨⟨c0, c1, c2, c3, c4, c5, c6, c7⟩, z0, z1, z2, z3, z4, z5, z6, z7⟩ := hS7.facts; have hS8 := hS7.s2 (Rd : Int)) | (go_at_call 84; (with_reducible refine (hir _).mono ?_); rintro e ur ⟨rfl, hu⟩; rw [hu]; clear hu ur) | (go_at_call 81; (with_reducible refine (hr73 _).mono ?_); rintro e ur ⟨rfl, hu⟩; rw [hu]; clear hu ur) | (go_at_call 85; (with_reducible refine (hhh _).mono ?_); rintro e ur ⟨rfl, hu⟩; rw [hu]; clear hu ur) | (go_at_call 88; (with_reducible refine (hhs _).mono ?_); rintro e ur ⟨rfl, hu⟩; rw [hu]; clear hu ur) | (go_at_call 87; (with_reducible refine (hx _ hS8).mono ?_); rintro e ux ⟨rfl, hkx⟩))
  exact ⟨rfl, fdo_err rfl hkx⟩
set_option maxHeartbeats 4000000 in
set_option maxRecDepth 100000 in
theorem fd14 {w : World} {p : Nat} {ad : Option Addr} {cap : Nat} {bs : List Nat} (h : Rdr w p ad cap bs 0) (n : Nat) (h1 : 2 ≤ bs.length) (hM : nm bs 0 2 = 25971) (h2 : 3 ≤ bs.length) (K : Nat) (hK : nm bs 2 1 = K) (hk4 : K ≠ 3) (h3 : 4 ≤ bs.length) (hSz : nm bs 3 1 = n) (h4 : 5 ≤ bs.length) (G : Nat) (hG : nm bs 4 1 = G) (hg1 : G < n) (h5 : 10 ≤ bs.length) (Rd : Nat) (hRd : nm bs 5 5 = Rd) (hrd : 1 ≤ Rd ∧ Rd ≤ 1099511627775) (hk5 : K = 2) (hn : n ≤ 100) (hn1 : 1 ≤ n) (h6 : 10 + hsz n ≤ bs.length) (M : Nat) (hMs : vlS ((bs.drop 10).take (hsz n)) = M) (hw : wthB M n = false) : Calls Tryz.prog 26 #[.pointer (some ⟨p, 0, none⟩), .int .i64 (n : Int)] w (FdO p ad cap bs (.error 74) w) := by
  have hS0 := sf_start h
  have hm : ∀ W, SF w p ad cap bs 0 0 0 0 0 (.slice none 0 0) W → Calls Tryz.prog 82 #[.pointer (some ⟨p, 0, none⟩), .int .i64 2] W fun e W' => e = .returned (.int .i64 (25971 : Nat)) ∧ SF w p ad cap bs 2 0 0 0 0 (.slice none 0 0) W' := fun W h => by
    have := SF.num h 2 (by decide) (by decide) (by omega)
    rwa [hM] at this
  have hr70 := refuse_no 70
  have hk : ∀ W, SF w p ad cap bs 2 0 0 0 0 (.slice none 0 0) W → Calls Tryz.prog 82 #[.pointer (some ⟨p, 0, none⟩), .int .i64 1] W fun e W' => e = .returned (.int .i64 (K : Nat)) ∧ SF w p ad cap bs 3 0 0 0 0 (.slice none 0 0) W' := fun W h => by
    have := SF.num h 1 (by decide) (by decide) (by omega)
    rwa [hK] at this
  have hr71 := refuse_no 71
  have q0 : decide ((K : Int) < 1) = false := decide_eq_false (by omega)
  have q1 : decide ((3 : Int) < (K : Int)) = false := decide_eq_false (by omega)
  have hs : ∀ W, SF w p ad cap bs 3 K 0 0 0 (.slice none 0 0) W → Calls Tryz.prog 82 #[.pointer (some ⟨p, 0, none⟩), .int .i64 1] W fun e W' => e = .returned (.int .i64 (n : Nat)) ∧ SF w p ad cap bs 4 K 0 0 0 (.slice none 0 0) W' := fun W h => by
    have := SF.num h 1 (by decide) (by decide) (by omega)
    rwa [hSz] at this
  have hr102 := refuse_no 102
  have hf : ∀ W, SF w p ad cap bs 4 K 0 0 0 (.slice none 0 0) W → Calls Tryz.prog 82 #[.pointer (some ⟨p, 0, none⟩), .int .i64 1] W fun e W' => e = .returned (.int .i64 (G : Nat)) ∧ SF w p ad cap bs 5 K 0 0 0 (.slice none 0 0) W' := fun W h => by
    have := SF.num h 1 (by decide) (by decide) (by omega)
    rwa [hG] at this
  have hr72 := refuse_no 72
  have q3 : decide (n ≤ G) = false := decide_eq_false (by omega)
  have hhr : ∀ w, Calls Tryz.prog 83 #[.int .i64 (K : Int)] w _ := hasRound_any K
  rw [decide_eq_true hk4] at hhr
  have hq : ∀ W, SF w p ad cap bs 5 K (G : Int) 0 0 (.slice none 0 0) W → Calls Tryz.prog 82 #[.pointer (some ⟨p, 0, none⟩), .int .i64 5] W fun e W' => e = .returned (.int .i64 (Rd : Nat)) ∧ SF w p ad cap bs 10 K (G : Int) 0 0 (.slice none 0 0) W' := fun W h => by
    have := SF.num h 5 (by decide) (by decide) (by omega)
    rwa [hRd] at this
  have hir : ∀ w, Calls Tryz.prog 84 #[.int .i64 (Rd : Int)] w _ := isRound_any (Rd : Int)
  rw [decide_eq_true (by omega)] at hir
  have hr73 := refuse_no 73
  have hhh : ∀ w, Calls Tryz.prog 85 #[.int .i64 (K : Int)] w _ := hasHeard_any K
  rw [decide_eq_true hk5] at hhh
  clear hk5
  have hhs : ∀ w, Calls Tryz.prog 88 #[.int .i64 (n : Int)] w _ := heardSize_any n hn
  obtain ⟨Z, hZ⟩ : ∃ Z, hsz n = Z := ⟨_, rfl⟩
  have hZ0 : 0 < Z := by rw [← hZ]; unfold hsz; omega
  have hZ13 : Z ≤ 13 := by rw [← hZ]; exact hsz_le hn
  rw [hZ] at hhs
  have hto : ∀ W, SF w p ad cap bs 10 K (G : Int) (Rd : Int) 0 (.slice none 0 0) W → Calls Tryz.prog 87 #[.pointer (some ⟨p, 0, none⟩), .int .i64 (Z : Int)] W fun e W' => ∃ a c, e = .returned (.slice a Z c) ∧ RdB W' a ((bs.drop 10).take Z) ∧ SF w p ad cap bs (10 + Z) K (G : Int) (Rd : Int) 0 (.slice none 0 0) W' := fun W h => (take_ok h.rr Z hZ0 (by omega)).mono (by rintro e W' ⟨a, c, rfl, _, hr, h1, h2⟩; exact ⟨a, c, rfl, hr, h.kbs h1 h2⟩)
  have hso : ∀ a c W, RdB W a ((bs.drop 10).take Z) → Calls Tryz.prog 86 #[.slice a Z c] W fun e W' => e = .returned (.agg #[.int .u32 (wd M 0 : Nat), .int .u32 (wd M 1 : Nat), .int .u32 (wd M 2 : Nat), .int .u32 (wd M 3 : Nat)]) ∧ Below W.heap.size W W' := fun a c W hr => by
    have := setOf_any a c ((bs.drop 10).take Z) W hr ((h.byt.drop _).take _) (by rw [sub_len (by omega)]; omega)
    rw [sub_len (by omega), ← hZ, hMs] at this
    rw [← hZ]
    exact this
  have hM128 : M < S128 := by
    have := vlS_lt _ ((h.byt.drop 10).take (hsz n))
    rw [sub_len h6, hMs] at this
    exact Nat.lt_of_lt_of_le this (Nat.le_trans (Nat.pow_le_pow_right (n := 2) (by decide) (show 8 * hsz n ≤ 128 by omega)) (by decide))
  have hwi := within_any M hM128 (n : Int)
  simp only [sv] at hwi
  rw [hw] at hwi
  have hr74 := refuse_yes 74
  clear hZ
  obtain ⟨⟨c0, c1, c2, c3, c4, c5, c6, c7⟩, z0, z1, z2, z3, z4, z5, z6, z7⟩ := hS0.facts
  go_enter Tryz.func26, Tryz.ntmps26
  go_wp2_with (first | (go_at_call 82; (with_reducible refine (hm _ hS0).mono ?_); rintro e u1 ⟨rfl, hS1⟩; clear c0 c1 c2 c3 c4 c5 c6 c7 z0 z1 z2 z3 z4 z5 z6 z7; obtain ⟨⟨c0, c1, c2, c3, c4, c5, c6, c7⟩, z0, z1, z2, z3, z4, z5, z6, z7⟩ := hS1.facts) | (go_at_call 81; (with_reducible refine (hr70 _).mono ?_); rintro e ur ⟨rfl, hu⟩; rw [hu]; clear hu ur) | (go_at_call 82; (with_reducible refine (hk _ hS1).mono ?_); rintro e u2 ⟨rfl, hS2⟩; clear c0 c1 c2 c3 c4 c5 c6 c7 z0 z1 z2 z3 z4 z5 z6 z7; obtain ⟨⟨c0, c1, c2, c3, c4, c5, c6, c7⟩, z0, z1, z2, z3, z4, z5, z6, z7⟩ := hS2.facts; have hS3 := hS2.s0 K) | (go_at_call 81; (with_reducible refine (hr71 _).mono ?_); rintro e ur ⟨rfl, hu⟩; rw [hu]; clear hu ur) | (go_at_call 82; (with_reducible refine (hs _ hS3).mono ?_); rintro e u4 ⟨rfl, hS4⟩; clear c0 c1 c2 c3 c4 c5 c6 c7 z0 z1 z2 z3 z4 z5 z6 z7; obtain ⟨⟨c0, c1, c2, c3, c4, c5, c6, c7⟩, z0, z1, z2, z3, z4, z5, z6, z7⟩ := hS4.facts) | (go_at_call 81; (with_reducible refine (hr102 _).mono ?_); rintro e ur ⟨rfl, hu⟩; rw [hu]; clear hu ur) | (go_at_call 82; (with_reducible refine (hf _ hS4).mono ?_); rintro e u5 ⟨rfl, hS5⟩; clear c0 c1 c2 c3 c4 c5 c6 c7 z0 z1 z2 z3 z4 z5 z6 z7; obtain ⟨⟨c0, c1, c2, c3, c4, c5, c6, c7⟩, z0, z1, z2, z3, z4, z5, z6, z7⟩ := hS5.facts; have hS6 := hS5.s1 (G : Int)) | (go_at_call 81; (with_reducible refine (hr72 _).mono ?_); rintro e ur ⟨rfl, hu⟩; rw [hu]; clear hu ur) | (go_at_call 83; (with_reducible refine (hhr _).mono ?_); rintro e ur ⟨rfl, hu⟩; rw [hu]; clear hu ur) | (go_at_call 82; (with_reducible refine (hq _ hS6).mono ?_); rintro e u7 ⟨rfl, hS7⟩; clear c0 c1 c2 c3 c4 c5 c6 c7 z0 z1 z2 z3 z4 z5 z6 z7; obtain ⟨⟨c0, c1, c2, c3, c4, c5, c6, c7⟩, z0, z1, z2, z3, z4, z5, z6, z7⟩ := hS7.facts; have hS8 := hS7.s2 (Rd : Int)) | (go_at_call 84; (with_reducible refine (hir _).mono ?_); rintro e ur ⟨rfl, hu⟩; rw [hu]; clear hu ur) | (go_at_call 81; (with_reducible refine (hr73 _).mono ?_); rintro e ur ⟨rfl, hu⟩; rw [hu]; clear hu ur) | (go_at_call 85; (with_reducible refine (hhh _).mono ?_); rintro e ur ⟨rfl, hu⟩; rw [hu]; clear hu ur) | (go_at_call 88; (with_reducible refine (hhs _).mono ?_); rintro e ur ⟨rfl, hu⟩; rw [hu]; clear hu ur) | (go_at_call 87; (with_reducible refine (hto _ hS8).mono ?_); rintro e u9 ⟨a9, e9, rfl, hr9, hS9⟩) | (go_at_call 86; (with_reducible refine (hso _ _ _ hr9).mono ?_); rintro e u10 ⟨rfl, hb10⟩; have hS10 := hS9.below hb10; clear c0 c1 c2 c3 c4 c5 c6 c7 z0 z1 z2 z3 z4 z5 z6 z7; obtain ⟨⟨c0, c1, c2, c3, c4, c5, c6, c7⟩, z0, z1, z2, z3, z4, z5, z6, z7⟩ := hS10.facts; have hS11 := hS10.s3 M; unfold W4 at hS11) | (go_at_call 89; (with_reducible refine (hwi _).mono ?_); rintro e u12 ⟨rfl, hb12⟩; have hS12 := hS11.below hb12; clear c0 c1 c2 c3 c4 c5 c6 c7 z0 z1 z2 z3 z4 z5 z6 z7; obtain ⟨⟨c0, c1, c2, c3, c4, c5, c6, c7⟩, z0, z1, z2, z3, z4, z5, z6, z7⟩ := hS12.facts) | (go_at_call 81; (with_reducible refine (hr74 _).mono ?_); rintro e ur ⟨rfl, hu⟩; rw [hu]; clear hu ur))
  exact ⟨rfl, fdo_err rfl hS12.kb⟩
set_option maxHeartbeats 4000000 in
set_option maxRecDepth 100000 in
theorem fd15x {w : World} {p : Nat} {ad : Option Addr} {cap : Nat} {bs : List Nat} (h : Rdr w p ad cap bs 0) (n : Nat) (h1 : 2 ≤ bs.length) (hM : nm bs 0 2 = 25971) (h2 : 3 ≤ bs.length) (K : Nat) (hK : nm bs 2 1 = K) (hk4 : K ≠ 3) (h3 : 4 ≤ bs.length) (hSz : nm bs 3 1 = n) (h4 : 5 ≤ bs.length) (G : Nat) (hG : nm bs 4 1 = G) (hg1 : G < n) (h5 : 10 ≤ bs.length) (Rd : Nat) (hRd : nm bs 5 5 = Rd) (hrd : 1 ≤ Rd ∧ Rd ≤ 1099511627775) (hk5 : K = 2) (hn1 : 1 ≤ n) (h6 : 10 + hsz n ≤ bs.length) (M : Nat) (hMs : vlS ((bs.drop 10).take (hsz n)) = M) (hw : wthB M n = true) (hn : n ≤ 100) (er : Int) (hW : rdW n bs (10 + hsz n) = .error er) : Calls Tryz.prog 26 #[.pointer (some ⟨p, 0, none⟩), .int .i64 (n : Int)] w (FdO p ad cap bs (.error er) w) := by
  have hS0 := sf_start h
  have hm : ∀ W, SF w p ad cap bs 0 0 0 0 0 (.slice none 0 0) W → Calls Tryz.prog 82 #[.pointer (some ⟨p, 0, none⟩), .int .i64 2] W fun e W' => e = .returned (.int .i64 (25971 : Nat)) ∧ SF w p ad cap bs 2 0 0 0 0 (.slice none 0 0) W' := fun W h => by
    have := SF.num h 2 (by decide) (by decide) (by omega)
    rwa [hM] at this
  have hr70 := refuse_no 70
  have hk : ∀ W, SF w p ad cap bs 2 0 0 0 0 (.slice none 0 0) W → Calls Tryz.prog 82 #[.pointer (some ⟨p, 0, none⟩), .int .i64 1] W fun e W' => e = .returned (.int .i64 (K : Nat)) ∧ SF w p ad cap bs 3 0 0 0 0 (.slice none 0 0) W' := fun W h => by
    have := SF.num h 1 (by decide) (by decide) (by omega)
    rwa [hK] at this
  have hr71 := refuse_no 71
  have q0 : decide ((K : Int) < 1) = false := decide_eq_false (by omega)
  have q1 : decide ((3 : Int) < (K : Int)) = false := decide_eq_false (by omega)
  have hs : ∀ W, SF w p ad cap bs 3 K 0 0 0 (.slice none 0 0) W → Calls Tryz.prog 82 #[.pointer (some ⟨p, 0, none⟩), .int .i64 1] W fun e W' => e = .returned (.int .i64 (n : Nat)) ∧ SF w p ad cap bs 4 K 0 0 0 (.slice none 0 0) W' := fun W h => by
    have := SF.num h 1 (by decide) (by decide) (by omega)
    rwa [hSz] at this
  have hr102 := refuse_no 102
  have hf : ∀ W, SF w p ad cap bs 4 K 0 0 0 (.slice none 0 0) W → Calls Tryz.prog 82 #[.pointer (some ⟨p, 0, none⟩), .int .i64 1] W fun e W' => e = .returned (.int .i64 (G : Nat)) ∧ SF w p ad cap bs 5 K 0 0 0 (.slice none 0 0) W' := fun W h => by
    have := SF.num h 1 (by decide) (by decide) (by omega)
    rwa [hG] at this
  have hr72 := refuse_no 72
  have q3 : decide (n ≤ G) = false := decide_eq_false (by omega)
  have hhr : ∀ w, Calls Tryz.prog 83 #[.int .i64 (K : Int)] w _ := hasRound_any K
  rw [decide_eq_true hk4] at hhr
  have hq : ∀ W, SF w p ad cap bs 5 K (G : Int) 0 0 (.slice none 0 0) W → Calls Tryz.prog 82 #[.pointer (some ⟨p, 0, none⟩), .int .i64 5] W fun e W' => e = .returned (.int .i64 (Rd : Nat)) ∧ SF w p ad cap bs 10 K (G : Int) 0 0 (.slice none 0 0) W' := fun W h => by
    have := SF.num h 5 (by decide) (by decide) (by omega)
    rwa [hRd] at this
  have hir : ∀ w, Calls Tryz.prog 84 #[.int .i64 (Rd : Int)] w _ := isRound_any (Rd : Int)
  rw [decide_eq_true (by omega)] at hir
  have hr73 := refuse_no 73
  have hhh : ∀ w, Calls Tryz.prog 85 #[.int .i64 (K : Int)] w _ := hasHeard_any K
  rw [decide_eq_true hk5] at hhh
  clear hk5
  have hhs : ∀ w, Calls Tryz.prog 88 #[.int .i64 (n : Int)] w _ := heardSize_any n hn
  obtain ⟨Z, hZ⟩ : ∃ Z, hsz n = Z := ⟨_, rfl⟩
  have hZ0 : 0 < Z := by rw [← hZ]; unfold hsz; omega
  have hZ13 : Z ≤ 13 := by rw [← hZ]; exact hsz_le hn
  rw [hZ] at hhs
  have hto : ∀ W, SF w p ad cap bs 10 K (G : Int) (Rd : Int) 0 (.slice none 0 0) W → Calls Tryz.prog 87 #[.pointer (some ⟨p, 0, none⟩), .int .i64 (Z : Int)] W fun e W' => ∃ a c, e = .returned (.slice a Z c) ∧ RdB W' a ((bs.drop 10).take Z) ∧ SF w p ad cap bs (10 + Z) K (G : Int) (Rd : Int) 0 (.slice none 0 0) W' := fun W h => (take_ok h.rr Z hZ0 (by omega)).mono (by rintro e W' ⟨a, c, rfl, _, hr, h1, h2⟩; exact ⟨a, c, rfl, hr, h.kbs h1 h2⟩)
  have hso : ∀ a c W, RdB W a ((bs.drop 10).take Z) → Calls Tryz.prog 86 #[.slice a Z c] W fun e W' => e = .returned (.agg #[.int .u32 (wd M 0 : Nat), .int .u32 (wd M 1 : Nat), .int .u32 (wd M 2 : Nat), .int .u32 (wd M 3 : Nat)]) ∧ Below W.heap.size W W' := fun a c W hr => by
    have := setOf_any a c ((bs.drop 10).take Z) W hr ((h.byt.drop _).take _) (by rw [sub_len (by omega)]; omega)
    rw [sub_len (by omega), ← hZ, hMs] at this
    rw [← hZ]
    exact this
  have hM128 : M < S128 := by
    have := vlS_lt _ ((h.byt.drop 10).take (hsz n))
    rw [sub_len h6, hMs] at this
    exact Nat.lt_of_lt_of_le this (Nat.le_trans (Nat.pow_le_pow_right (n := 2) (by decide) (show 8 * hsz n ≤ 128 by omega)) (by decide))
  have hwi := within_any M hM128 (n : Int)
  simp only [sv] at hwi
  rw [hw] at hwi
  have hr74 := refuse_no 74
  rw [hZ] at hW
  clear hZ
  have hx : ∀ W, SF w p ad cap bs (10 + Z) K (G : Int) (Rd : Int) M (.slice none 0 0) W → Calls Tryz.prog 90 #[.pointer (some ⟨p, 0, none⟩), .int .i64 (n : Int)] W fun e W' => e = .panicked (rfu er) ∧ Kb p w W' := fun W h => SF.newsx h n hn er hW
  obtain ⟨⟨c0, c1, c2, c3, c4, c5, c6, c7⟩, z0, z1, z2, z3, z4, z5, z6, z7⟩ := hS0.facts
  go_enter Tryz.func26, Tryz.ntmps26
  go_wp2_with (first | (go_at_call 82; (with_reducible refine (hm _ hS0).mono ?_); rintro e u1 ⟨rfl, hS1⟩; clear c0 c1 c2 c3 c4 c5 c6 c7 z0 z1 z2 z3 z4 z5 z6 z7; obtain ⟨⟨c0, c1, c2, c3, c4, c5, c6, c7⟩, z0, z1, z2, z3, z4, z5, z6, z7⟩ := hS1.facts) | (go_at_call 81; (with_reducible refine (hr70 _).mono ?_); rintro e ur ⟨rfl, hu⟩; rw [hu]; clear hu ur) | (go_at_call 82; (with_reducible refine (hk _ hS1).mono ?_); rintro e u2 ⟨rfl, hS2⟩; clear c0 c1 c2 c3 c4 c5 c6 c7 z0 z1 z2 z3 z4 z5 z6 z7; obtain ⟨⟨c0, c1, c2, c3, c4, c5, c6, c7⟩, z0, z1, z2, z3, z4, z5, z6, z7⟩ := hS2.facts; have hS3 := hS2.s0 K) | (go_at_call 81; (with_reducible refine (hr71 _).mono ?_); rintro e ur ⟨rfl, hu⟩; rw [hu]; clear hu ur) | (go_at_call 82; (with_reducible refine (hs _ hS3).mono ?_); rintro e u4 ⟨rfl, hS4⟩; clear c0 c1 c2 c3 c4 c5 c6 c7 z0 z1 z2 z3 z4 z5 z6 z7; obtain ⟨⟨c0, c1, c2, c3, c4, c5, c6, c7⟩, z0, z1, z2, z3, z4, z5, z6, z7⟩ := hS4.facts) | (go_at_call 81; (with_reducible refine (hr102 _).mono ?_); rintro e ur ⟨rfl, hu⟩; rw [hu]; clear hu ur) | (go_at_call 82; (with_reducible refine (hf _ hS4).mono ?_); rintro e u5 ⟨rfl, hS5⟩; clear c0 c1 c2 c3 c4 c5 c6 c7 z0 z1 z2 z3 z4 z5 z6 z7; obtain ⟨⟨c0, c1, c2, c3, c4, c5, c6, c7⟩, z0, z1, z2, z3, z4, z5, z6, z7⟩ := hS5.facts; have hS6 := hS5.s1 (G : Int)) | (go_at_call 81; (with_reducible refine (hr72 _).mono ?_); rintro e ur ⟨rfl, hu⟩; rw [hu]; clear hu ur) | (go_at_call 83; (with_reducible refine (hhr _).mono ?_); rintro e ur ⟨rfl, hu⟩; rw [hu]; clear hu ur) | (go_at_call 82; (with_reducible refine (hq _ hS6).mono ?_); rintro e u7 ⟨rfl, hS7⟩; clear c0 c1 c2 c3 c4 c5 c6 c7 z0 z1 z2 z3 z4 z5 z6 z7; obtain ⟨⟨c0, c1, c2, c3, c4, c5, c6, c7⟩, z0, z1, z2, z3, z4, z5, z6, z7⟩ := hS7.facts; have hS8 := hS7.s2 (Rd : Int)) | (go_at_call 84; (with_reducible refine (hir _).mono ?_); rintro e ur ⟨rfl, hu⟩; rw [hu]; clear hu ur) | (go_at_call 81; (with_reducible refine (hr73 _).mono ?_); rintro e ur ⟨rfl, hu⟩; rw [hu]; clear hu ur) | (go_at_call 85; (with_reducible refine (hhh _).mono ?_); rintro e ur ⟨rfl, hu⟩; rw [hu]; clear hu ur) | (go_at_call 88; (with_reducible refine (hhs _).mono ?_); rintro e ur ⟨rfl, hu⟩; rw [hu]; clear hu ur) | (go_at_call 87; (with_reducible refine (hto _ hS8).mono ?_); rintro e u9 ⟨a9, e9, rfl, hr9, hS9⟩) | (go_at_call 86; (with_reducible refine (hso _ _ _ hr9).mono ?_); rintro e u10 ⟨rfl, hb10⟩; have hS10 := hS9.below hb10; clear c0 c1 c2 c3 c4 c5 c6 c7 z0 z1 z2 z3 z4 z5 z6 z7; obtain ⟨⟨c0, c1, c2, c3, c4, c5, c6, c7⟩, z0, z1, z2, z3, z4, z5, z6, z7⟩ := hS10.facts; have hS11 := hS10.s3 M; unfold W4 at hS11) | (go_at_call 89; (with_reducible refine (hwi _).mono ?_); rintro e u12 ⟨rfl, hb12⟩; have hS12 := hS11.below hb12; clear c0 c1 c2 c3 c4 c5 c6 c7 z0 z1 z2 z3 z4 z5 z6 z7; obtain ⟨⟨c0, c1, c2, c3, c4, c5, c6, c7⟩, z0, z1, z2, z3, z4, z5, z6, z7⟩ := hS12.facts) | (go_at_call 81; (with_reducible refine (hr74 _).mono ?_); rintro e ur ⟨rfl, hu⟩; rw [hu]; clear hu ur) | (go_at_call 90; (with_reducible refine (hx _ hS12).mono ?_); rintro e ux ⟨rfl, hkx⟩))
  exact ⟨rfl, fdo_err rfl hkx⟩
set_option maxHeartbeats 4000000 in
set_option maxRecDepth 100000 in
theorem fd15o {w : World} {p : Nat} {ad : Option Addr} {cap : Nat} {bs : List Nat} (h : Rdr w p ad cap bs 0) (n : Nat) (h1 : 2 ≤ bs.length) (hM : nm bs 0 2 = 25971) (h2 : 3 ≤ bs.length) (K : Nat) (hK : nm bs 2 1 = K) (hk4 : K ≠ 3) (h3 : 4 ≤ bs.length) (hSz : nm bs 3 1 = n) (h4 : 5 ≤ bs.length) (G : Nat) (hG : nm bs 4 1 = G) (hg1 : G < n) (h5 : 10 ≤ bs.length) (Rd : Nat) (hRd : nm bs 5 5 = Rd) (hrd : 1 ≤ Rd ∧ Rd ≤ 1099511627775) (hk5 : K = 2) (hn1 : 1 ≤ n) (h6 : 10 + hsz n ≤ bs.length) (M : Nat) (hMs : vlS ((bs.drop 10).take (hsz n)) = M) (hw : wthB M n = true) (hn : n ≤ 100) (l : List (Int × Int × Int)) (j : Nat) (hW : rdW n bs (10 + hsz n) = .ok (l, j)) : Calls Tryz.prog 26 #[.pointer (some ⟨p, 0, none⟩), .int .i64 (n : Int)] w (FdO p ad cap bs (.ok ((K, G, Rd, M, l), j)) w) := by
  have hS0 := sf_start h
  have hm : ∀ W, SF w p ad cap bs 0 0 0 0 0 (.slice none 0 0) W → Calls Tryz.prog 82 #[.pointer (some ⟨p, 0, none⟩), .int .i64 2] W fun e W' => e = .returned (.int .i64 (25971 : Nat)) ∧ SF w p ad cap bs 2 0 0 0 0 (.slice none 0 0) W' := fun W h => by
    have := SF.num h 2 (by decide) (by decide) (by omega)
    rwa [hM] at this
  have hr70 := refuse_no 70
  have hk : ∀ W, SF w p ad cap bs 2 0 0 0 0 (.slice none 0 0) W → Calls Tryz.prog 82 #[.pointer (some ⟨p, 0, none⟩), .int .i64 1] W fun e W' => e = .returned (.int .i64 (K : Nat)) ∧ SF w p ad cap bs 3 0 0 0 0 (.slice none 0 0) W' := fun W h => by
    have := SF.num h 1 (by decide) (by decide) (by omega)
    rwa [hK] at this
  have hr71 := refuse_no 71
  have q0 : decide ((K : Int) < 1) = false := decide_eq_false (by omega)
  have q1 : decide ((3 : Int) < (K : Int)) = false := decide_eq_false (by omega)
  have hs : ∀ W, SF w p ad cap bs 3 K 0 0 0 (.slice none 0 0) W → Calls Tryz.prog 82 #[.pointer (some ⟨p, 0, none⟩), .int .i64 1] W fun e W' => e = .returned (.int .i64 (n : Nat)) ∧ SF w p ad cap bs 4 K 0 0 0 (.slice none 0 0) W' := fun W h => by
    have := SF.num h 1 (by decide) (by decide) (by omega)
    rwa [hSz] at this
  have hr102 := refuse_no 102
  have hf : ∀ W, SF w p ad cap bs 4 K 0 0 0 (.slice none 0 0) W → Calls Tryz.prog 82 #[.pointer (some ⟨p, 0, none⟩), .int .i64 1] W fun e W' => e = .returned (.int .i64 (G : Nat)) ∧ SF w p ad cap bs 5 K 0 0 0 (.slice none 0 0) W' := fun W h => by
    have := SF.num h 1 (by decide) (by decide) (by omega)
    rwa [hG] at this
  have hr72 := refuse_no 72
  have q3 : decide (n ≤ G) = false := decide_eq_false (by omega)
  have hhr : ∀ w, Calls Tryz.prog 83 #[.int .i64 (K : Int)] w _ := hasRound_any K
  rw [decide_eq_true hk4] at hhr
  have hq : ∀ W, SF w p ad cap bs 5 K (G : Int) 0 0 (.slice none 0 0) W → Calls Tryz.prog 82 #[.pointer (some ⟨p, 0, none⟩), .int .i64 5] W fun e W' => e = .returned (.int .i64 (Rd : Nat)) ∧ SF w p ad cap bs 10 K (G : Int) 0 0 (.slice none 0 0) W' := fun W h => by
    have := SF.num h 5 (by decide) (by decide) (by omega)
    rwa [hRd] at this
  have hir : ∀ w, Calls Tryz.prog 84 #[.int .i64 (Rd : Int)] w _ := isRound_any (Rd : Int)
  rw [decide_eq_true (by omega)] at hir
  have hr73 := refuse_no 73
  have hhh : ∀ w, Calls Tryz.prog 85 #[.int .i64 (K : Int)] w _ := hasHeard_any K
  rw [decide_eq_true hk5] at hhh
  clear hk5
  have hhs : ∀ w, Calls Tryz.prog 88 #[.int .i64 (n : Int)] w _ := heardSize_any n hn
  obtain ⟨Z, hZ⟩ : ∃ Z, hsz n = Z := ⟨_, rfl⟩
  have hZ0 : 0 < Z := by rw [← hZ]; unfold hsz; omega
  have hZ13 : Z ≤ 13 := by rw [← hZ]; exact hsz_le hn
  rw [hZ] at hhs
  have hto : ∀ W, SF w p ad cap bs 10 K (G : Int) (Rd : Int) 0 (.slice none 0 0) W → Calls Tryz.prog 87 #[.pointer (some ⟨p, 0, none⟩), .int .i64 (Z : Int)] W fun e W' => ∃ a c, e = .returned (.slice a Z c) ∧ RdB W' a ((bs.drop 10).take Z) ∧ SF w p ad cap bs (10 + Z) K (G : Int) (Rd : Int) 0 (.slice none 0 0) W' := fun W h => (take_ok h.rr Z hZ0 (by omega)).mono (by rintro e W' ⟨a, c, rfl, _, hr, h1, h2⟩; exact ⟨a, c, rfl, hr, h.kbs h1 h2⟩)
  have hso : ∀ a c W, RdB W a ((bs.drop 10).take Z) → Calls Tryz.prog 86 #[.slice a Z c] W fun e W' => e = .returned (.agg #[.int .u32 (wd M 0 : Nat), .int .u32 (wd M 1 : Nat), .int .u32 (wd M 2 : Nat), .int .u32 (wd M 3 : Nat)]) ∧ Below W.heap.size W W' := fun a c W hr => by
    have := setOf_any a c ((bs.drop 10).take Z) W hr ((h.byt.drop _).take _) (by rw [sub_len (by omega)]; omega)
    rw [sub_len (by omega), ← hZ, hMs] at this
    rw [← hZ]
    exact this
  have hM128 : M < S128 := by
    have := vlS_lt _ ((h.byt.drop 10).take (hsz n))
    rw [sub_len h6, hMs] at this
    exact Nat.lt_of_lt_of_le this (Nat.le_trans (Nat.pow_le_pow_right (n := 2) (by decide) (show 8 * hsz n ≤ 128 by omega)) (by decide))
  have hwi := within_any M hM128 (n : Int)
  simp only [sv] at hwi
  rw [hw] at hwi
  have hr74 := refuse_no 74
  rw [hZ] at hW
  clear hZ
  have ho : ∀ W, SF w p ad cap bs (10 + Z) K (G : Int) (Rd : Int) M (.slice none 0 0) W → Calls Tryz.prog 90 #[.pointer (some ⟨p, 0, none⟩), .int .i64 (n : Int)] W fun e W' => ∃ a2 c2, e = .returned (.slice a2 l.length c2) ∧ W'.ownsRow (w.heap.size + 2) 80 3 (.slice a2 l.length c2) l.length (fl l) ∧ SF w p ad cap bs j K (G : Int) (Rd : Int) M (.slice none 0 0) W' := fun W h => SF.newso h n hn l j hW
  obtain ⟨⟨c0, c1, c2, c3, c4, c5, c6, c7⟩, z0, z1, z2, z3, z4, z5, z6, z7⟩ := hS0.facts
  go_enter Tryz.func26, Tryz.ntmps26
  go_wp2_with (first | (go_at_call 82; (with_reducible refine (hm _ hS0).mono ?_); rintro e u1 ⟨rfl, hS1⟩; clear c0 c1 c2 c3 c4 c5 c6 c7 z0 z1 z2 z3 z4 z5 z6 z7; obtain ⟨⟨c0, c1, c2, c3, c4, c5, c6, c7⟩, z0, z1, z2, z3, z4, z5, z6, z7⟩ := hS1.facts) | (go_at_call 81; (with_reducible refine (hr70 _).mono ?_); rintro e ur ⟨rfl, hu⟩; rw [hu]; clear hu ur) | (go_at_call 82; (with_reducible refine (hk _ hS1).mono ?_); rintro e u2 ⟨rfl, hS2⟩; clear c0 c1 c2 c3 c4 c5 c6 c7 z0 z1 z2 z3 z4 z5 z6 z7; obtain ⟨⟨c0, c1, c2, c3, c4, c5, c6, c7⟩, z0, z1, z2, z3, z4, z5, z6, z7⟩ := hS2.facts; have hS3 := hS2.s0 K) | (go_at_call 81; (with_reducible refine (hr71 _).mono ?_); rintro e ur ⟨rfl, hu⟩; rw [hu]; clear hu ur) | (go_at_call 82; (with_reducible refine (hs _ hS3).mono ?_); rintro e u4 ⟨rfl, hS4⟩; clear c0 c1 c2 c3 c4 c5 c6 c7 z0 z1 z2 z3 z4 z5 z6 z7; obtain ⟨⟨c0, c1, c2, c3, c4, c5, c6, c7⟩, z0, z1, z2, z3, z4, z5, z6, z7⟩ := hS4.facts) | (go_at_call 81; (with_reducible refine (hr102 _).mono ?_); rintro e ur ⟨rfl, hu⟩; rw [hu]; clear hu ur) | (go_at_call 82; (with_reducible refine (hf _ hS4).mono ?_); rintro e u5 ⟨rfl, hS5⟩; clear c0 c1 c2 c3 c4 c5 c6 c7 z0 z1 z2 z3 z4 z5 z6 z7; obtain ⟨⟨c0, c1, c2, c3, c4, c5, c6, c7⟩, z0, z1, z2, z3, z4, z5, z6, z7⟩ := hS5.facts; have hS6 := hS5.s1 (G : Int)) | (go_at_call 81; (with_reducible refine (hr72 _).mono ?_); rintro e ur ⟨rfl, hu⟩; rw [hu]; clear hu ur) | (go_at_call 83; (with_reducible refine (hhr _).mono ?_); rintro e ur ⟨rfl, hu⟩; rw [hu]; clear hu ur) | (go_at_call 82; (with_reducible refine (hq _ hS6).mono ?_); rintro e u7 ⟨rfl, hS7⟩; clear c0 c1 c2 c3 c4 c5 c6 c7 z0 z1 z2 z3 z4 z5 z6 z7; obtain ⟨⟨c0, c1, c2, c3, c4, c5, c6, c7⟩, z0, z1, z2, z3, z4, z5, z6, z7⟩ := hS7.facts; have hS8 := hS7.s2 (Rd : Int)) | (go_at_call 84; (with_reducible refine (hir _).mono ?_); rintro e ur ⟨rfl, hu⟩; rw [hu]; clear hu ur) | (go_at_call 81; (with_reducible refine (hr73 _).mono ?_); rintro e ur ⟨rfl, hu⟩; rw [hu]; clear hu ur) | (go_at_call 85; (with_reducible refine (hhh _).mono ?_); rintro e ur ⟨rfl, hu⟩; rw [hu]; clear hu ur) | (go_at_call 88; (with_reducible refine (hhs _).mono ?_); rintro e ur ⟨rfl, hu⟩; rw [hu]; clear hu ur) | (go_at_call 87; (with_reducible refine (hto _ hS8).mono ?_); rintro e u9 ⟨a9, e9, rfl, hr9, hS9⟩) | (go_at_call 86; (with_reducible refine (hso _ _ _ hr9).mono ?_); rintro e u10 ⟨rfl, hb10⟩; have hS10 := hS9.below hb10; clear c0 c1 c2 c3 c4 c5 c6 c7 z0 z1 z2 z3 z4 z5 z6 z7; obtain ⟨⟨c0, c1, c2, c3, c4, c5, c6, c7⟩, z0, z1, z2, z3, z4, z5, z6, z7⟩ := hS10.facts; have hS11 := hS10.s3 M; unfold W4 at hS11) | (go_at_call 89; (with_reducible refine (hwi _).mono ?_); rintro e u12 ⟨rfl, hb12⟩; have hS12 := hS11.below hb12; clear c0 c1 c2 c3 c4 c5 c6 c7 z0 z1 z2 z3 z4 z5 z6 z7; obtain ⟨⟨c0, c1, c2, c3, c4, c5, c6, c7⟩, z0, z1, z2, z3, z4, z5, z6, z7⟩ := hS12.facts) | (go_at_call 81; (with_reducible refine (hr74 _).mono ?_); rintro e ur ⟨rfl, hu⟩; rw [hu]; clear hu ur) | (go_at_call 90; (with_reducible refine (ho _ hS12).mono ?_); rintro e uz ⟨ax, cx, rfl, hox, hSz⟩; have hE := SF.end8 (fr := G) (rd := Rd) hSz hox; clear c0 c1 c2 c3 c4 c5 c6 c7 z0 z1 z2 z3 z4 z5 z6 z7; obtain ⟨⟨c0, c1, c2, c3, c4, c5, c6, c7⟩, z0, z1, z2, z3, z4, z5, z6, z7⟩ := hSz.facts; obtain ⟨d0, d1, d2, d3, d4, d5, d6, d7⟩ := hSz.f0.cells; have y0 := hSz.f0.thaw 0; have y1 := hSz.f0.thaw 1; have y2 := hSz.f0.thaw 2; have y3 := hSz.f0.thaw 3; have y4 := hSz.f0.thaw 4; have y5 := hSz.f0.thaw 5; have y6 := hSz.f0.thaw 6; have y7 := hSz.f0.thaw 7))
  exact retF rfl rfl rfl hE.1 hE.2
end Go.Proofs.YtnomeinppdnhfaaGreat
