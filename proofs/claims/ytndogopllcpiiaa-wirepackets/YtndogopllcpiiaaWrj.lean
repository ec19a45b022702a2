/- wire.reader.news: what it answers. -/
import Derived.Test.YtndogopllcpiiaaWrh
import Derived.Test.YtndogopllcpiiaaWri
import Derived.Test.YtndogopllcpiiaaSlg
namespace Go.Proofs.Ytndogopllcpiiaa
open Go.RowKit Go.Shelf

theorem step_build3 {P : Program} {md : Region.Mode} {ops : Array Oper} {Q : Exit → Act → World → Prop} {X0 : Array Value} {val : Nat → Value} {J : World → Prop} {i : Nat} {o : Oper} (hi : ops[i]? = some o) (hg : GOk md ops X0 val i o) (t : TypeId) (a b c : Nat) (x y z : Operand) (p q r : Value) (ho : o.op = .build t #[(a, x), (b, y), (c, z)]) (hx : rdo md ops X0 val i o x = some p) (hy : rdo md ops X0 val i o y = some q) (hz : rdo md ops X0 val i o z = some r)
    (hr : ∀ w, J w → (Instr.build t #[(a, p), (b, q), (c, r)]).run P w = .ok (val i) w) : StepAt P md ops Q X0 val J J i o :=
  step_of hi hg fun a w hJ hS => by
    unfold Oper.wp execOp
    simp only [ho, hS.eval hx, hS.eval hy, hS.eval hz, List.map_toArray, List.map_cons, List.map_nil, Sem.run_bind, hr w hJ, Result.andThen_ok, Sem.run_pure, Oper.upon_value]
    exact ⟨trivial, hJ⟩
theorem run_allocN (w : World) : (Instr.alloc 82 true (.tuple #[])).run Try.prog w = .ok (.pointer (some ⟨w.heap.size, 0, none⟩)) (w.alloc (.cells #[.int .i64 0, .int .i64 0, .int .i64 0] 82)) := by go_simp
theorem stepG_newN {G : Type} {md : Region.Mode} {ops : Array Oper} {Q : Exit → Act → World → Prop} {X0 : Array Value} {val : G → Nat → Value} {J : G → (Nat → Bool) → World → Prop} {i : Nat} {o : Oper} (hi : ops[i]? = some o) (hg : o.guard = none) (ho : o.op = .alloc 82)
    (h : ∀ g d W, J g d W → d i = false → (∀ j oj, ops[j]? = some oj → d j = true → ∀ k, bindsOn md oj k = true → d k = true) → ∃ g', (∀ j, d j = true → val g' j = val g j) ∧ val g' i = .pointer (some ⟨W.heap.size, 0, none⟩) ∧ J g' (fun j => if j = i then true else d j) (W.alloc (.cells #[.int .i64 0, .int .i64 0, .int .i64 0] 82))) : StepG Try.prog md ops Q X0 val J i o := by
  intro g d a W hJ hun _ hcl _
  obtain ⟨g', h1, h2, h3⟩ := h g d W hJ hun hcl
  unfold wpOp
  rw [hi]
  simp only [Region.wanted, hg, if_true]
  refine .inl ?_
  unfold Oper.wp execOp
  simp only [ho, Sem.run_bind, run_allocN, Result.andThen_ok, Sem.run_pure, Oper.upon_value]
  exact ⟨g', h1, by rw [h2], h3⟩
/-- While a notice is laid in a new box. -/
structure JN (Z : World) (o t k : Int) (g : Nat) (x y : Bool) (W : World) : Prop where
  below : Below Z.heap.size Z W
  box : x = true → Z.heap.size ≤ g ∧ NB W g (if y = true then o else 0) (if y = true then t else 0) (if y = true then k else 0)
theorem JN.carry {Z W V : World} {o t k : Int} {g : Nat} {x y : Bool} (h : JN Z o t k g x y W) (hb : Below W.heap.size W V) : JN Z o t k g x y V := ⟨bel2 h.below hb, fun e => ⟨(h.box e).1, (h.box e).2.carry hb⟩⟩
theorem JN.new {Z W : World} {o t k : Int} {g : Nat} {x y : Bool} (h : JN Z o t k g x y W) (hy : y = false) : JN Z o t k W.heap.size true y (W.alloc (.cells #[.int .i64 0, .int .i64 0, .int .i64 0] 82)) := by
  subst hy
  exact ⟨h.below.alloc h.below.size _, fun _ => ⟨h.below.size, NB.new _ _ _ _⟩⟩
theorem JN.store {Z W : World} {o t k : Int} {g : Nat} {y : Bool} (h : JN Z o t k g true y W) : (Instr.storeAt 82 (.pointer (some ⟨g, 0, none⟩)) (nt o t k)).run Try.prog W = .ok () (W3 W g o t k) ∧ JN Z o t k g true true (W3 W g o t k) :=
  ⟨store_nt (h.box rfl).2 o t k, below3 h.below (h.box rfl).1 _ _ _, fun _ => ⟨(h.box rfl).1, by simpa using (h.box rfl).2.set o t k⟩⟩
theorem slice_2 (b off len cap : Nat) (h1 : 2 < len) (h2 : len ≤ cap) (W : World) : (Instr.sliceAt 22 (.slice (some ⟨b, off, none⟩) len cap) (some (.int .i64 2)) none none).run Try.prog W = .ok (.slice (some ⟨b, off + 2, none⟩) (len - 2) (cap - 2)) W := by
  have q1 : (2 : Int) ≤ (len : Int) := by omega
  have q2 : (len : Int) ≤ (cap : Int) := by omega
  go_simp
  omega
theorem idx_b (b off len cap k : Nat) (h : k < len) (W : World) : (Instr.indexAt 22 (.slice (some ⟨b, off, none⟩) len cap) (.int .i64 (k : Int))).run Try.prog W = .ok (.pointer (some ⟨b, off + k, none⟩)) W := by
  have q1 : (k : Int) < (len : Int) := by omega
  go_simp
theorem load_b {W : World} {b j x : Nat} (h : W.cell? ⟨b, j, none⟩ = some (.int .u8 (x : Int))) : (Instr.loadAt 5 (.pointer (some ⟨b, j, none⟩))).run Try.prog W = .ok (.int .u8 (x : Int)) W := by
  go_simp
theorem build_nt (o t k : Int) (W : World) : (Instr.build 82 #[(0, .int .i64 o), (2, .int .i64 k), (1, .int .i64 t)]).run Try.prog W = .ok (nt o t k) W := by
  unfold nt
  go_simp
theorem ownsRow_kb {w w' : World} {p base : Nat} {e : TypeId} {size : Nat} {v : Value} {n : Nat} {xs : List Value} (h : w.ownsRow base e size v n xs) (hk : Kb p w w') (hne : ∀ g, v.ownBlock = some g → g ≠ p) : w'.ownsRow base e size v n xs := by
  obtain ⟨h1, h2⟩ := h
  refine ⟨h1, ?_⟩
  rcases h2 with h2 | ⟨g, cap, cur, h3, h4, h5, h6⟩
  · exact .inl h2
  · exact .inr ⟨g, cap, cur, h3, h4, (hk.2 g (hne g (by rw [h3]; rfl)) (lt_at h5)).trans h5, h6⟩
theorem Kb.grow {p : Nat} {w u u' : World} {o : Obj} {row : Option Nat} (h : Kb p w u) (hp : p < w.heap.size) (hg : (u.alloc o).grownBy u' row) (hr : ∀ k, row = some k → w.heap.size ≤ k) : Kb p w u' := by
  have hs := h.1.size
  refine ⟨(h.1.alloc (by omega) o).grown hg (by simp; omega) (fun k e => by have := hr k e; omega), fun b h1 h2 => ?_⟩
  rw [hg.block b (by simp; omega) (fun e => by have := hr b e.symm; omega), Below.heap_alloc u o b (by omega)]
  exact h.2 b h1 h2
theorem Rdr.grow {u u' : World} {p : Nat} {ad : Option Addr} {cap : Nat} {bs : List Nat} {i : Nat} {o : Obj} {row : Option Nat} (h : Rdr u p ad cap bs i) (hg : (u.alloc o).grownBy u' row) (hr : ∀ k, row = some k → p < k) : Rdr u' p ad cap bs i := by
  have hp := h.lt
  have key : ∀ b, b ≤ p → u'.heap[b]? = u.heap[b]? := fun b hb => by
    rw [hg.block b (by simp; omega) (fun e => by have := hr b e.symm; omega), Below.heap_alloc u o b (by omega)]
  refine ⟨(key p (Nat.le_refl _)).trans h.box, fun hne => ?_, h.le, h.byt, h.ln, h.cp⟩
  obtain ⟨b, off, h1, h2, h3⟩ := h.rd hne
  exact ⟨b, off, h1, h2, h3.carry (key b (Nat.le_of_lt h2))⟩
/-- What news answers. -/
def NwO (p : Nat) (ad : Option Addr) (cap : Nat) (bs : List Nat) (R : Except Int (List (Int × Int × Int) × Nat)) (w : World) (e : Ending) (w' : World) : Prop :=
  match R with
  | .error er => e = .panicked (rfu er) ∧ Kb p w w'
  | .ok (l, j) => ∃ v, e = .returned v ∧ w'.ownsRow w.heap.size 82 3 v l.length (fl l) ∧ Rdr w' p ad cap bs j ∧ Kb p w w'
theorem nwo_err {p : Nat} {ad : Option Addr} {cap : Nat} {bs : List Nat} {R : Except Int (List (Int × Int × Int) × Nat)} {w w' : World} {er : Int} (h : R = .error er) (hk : Kb p w w') : NwO p ad cap bs R w (.panicked (rfu er)) w' := by
  subst h
  exact ⟨rfl, hk⟩
theorem getD_byt {l : List Nat} (h : Byt l) (i : Nat) : l.getD i 0 < 256 := by
  rw [List.getD_eq_getElem?_getD]
  cases hx : l[i]? with
  | none => exact (by decide : (0 : Nat) < 256)
  | some x => exact byt_get8 h hx
theorem getD_some {l : List Nat} {i : Nat} (h : i < l.length) : l[i]? = some (l.getD i 0) := by
  rw [List.getD_eq_getElem?_getD, List.getElem?_eq_getElem h]
  rfl
theorem sub_get {bs : List Nat} {i m k : Nat} (h : i + m ≤ bs.length) (hk : k < m) : ((bs.drop i).take m)[k]? = some (bs.getD (i + k) 0) := by
  rw [List.getElem?_take, if_pos hk, List.getElem?_drop]
  exact getD_some (by omega)
theorem sub_sub (bs : List Nat) (i : Nat) : (((bs.drop i).take 5).drop 2).take 3 = (bs.drop (i + 2)).take 3 := by
  rw [List.drop_take, List.drop_drop, List.take_take]
  rfl
set_option maxHeartbeats 8000000 in
set_option maxRecDepth 100000 in
theorem news_any {w : World} {p : Nat} {ad : Option Addr} {cap : Nat} {bs : List Nat} {i : Nat} (h : Rdr w p ad cap bs i) (n : Nat) (hn : n ≤ 100) : Calls Try.prog 64 #[.pointer (some ⟨p, 0, none⟩), .int .i64 (n : Int)] w (NwO p ad cap bs (rdW n bs i) w) := by
  have hmx : Try.prog.follows .mixedOrders = true := by kernel_rfl
  obtain ⟨R, hR⟩ : ∃ R, rdW n bs i = R := ⟨_, rfl⟩
  rw [hR]
  by_cases h1 : bs.length < i + 1
  · rw [rdW, if_pos h1] at hR
    have HR : Hid (R = .error 76) := hR.symm
    have hnu : Calls Try.prog 56 #[.pointer (some ⟨p, 0, none⟩), .int .i64 1] w _ := number_no h 1 h1
    have hp := h.lt
    clear hR
    go_enter Try.func64, Try.ntmps64
    go_wp2_with (go_at_call 56; (with_reducible refine hnu.mono ?_); rintro e w1 ⟨rfl, hb⟩)
    exact ⟨rfl, nwo_err HR.out (Kb.below hb (Nat.le_of_lt hp))⟩
  rw [rdW, if_neg h1] at hR
  have hnu : Calls Try.prog 56 #[.pointer (some ⟨p, 0, none⟩), .int .i64 1] w fun e w' => e = .returned (.int .i64 (nm bs i 1 : Nat)) ∧ Rdr w' p ad cap bs (i + 1) ∧ Kb p w w' := number_ok h 1 (by decide) (by decide) (by omega)
  have hc256 : nm bs i 1 < 256 := by
    have := valB_lt _ ((h.byt.drop i).take 1)
    rw [sub_len (by omega)] at this
    exact this
  generalize nm bs i 1 = cnt at *
  by_cases h2 : n < cnt
  · rw [if_pos h2] at hR
    have HR : Hid (R = .error 75) := hR.symm
    have hre := refuse_yes 75
    have h2i : (n : Int) < (cnt : Int) := by omega
    clear hR
    go_enter Try.func64, Try.ntmps64
    go_wp2_with (first | (go_at_call 56; (with_reducible refine hnu.mono ?_); rintro e w1 ⟨rfl, hr1, hk1⟩) | (go_at_call 55; (with_reducible refine (hre _).mono ?_); rintro e w2 ⟨rfl, hu⟩; rw [hu]; clear hu w2))
    exact ⟨rfl, nwo_err HR.out hk1⟩
  rw [if_neg h2] at hR
  have h2i : ¬ (n : Int) < (cnt : Int) := by omega
  have hre0 := refuse_no 75
  have HR : Hid (rdK n bs cnt (-1) (i + 1) = R) := hR
  clear hR
  go_enter Try.func64, Try.ntmps64
  go_wp2_with (first | (go_at_call 56; (with_reducible refine hnu.mono ?_); rintro e w1 ⟨rfl, hr1, hk1⟩) | (go_at_call 55; (with_reducible refine (hre0 _).mono ?_); rintro e w2 ⟨rfl, hu⟩; rw [hu]; clear hu w2))
  clear hnu
  go_loopw [6, 7, 17] (fun v a c wz => ∃ (k : Nat) (L : List (Int × Int × Int)) (A : Int) (j : Nat), c = .int .i64 k ∧ a = .int .i64 A ∧ k ≤ cnt ∧ L.length = k ∧ wz.ownsRow w.heap.size 82 3 v k (fl L) ∧ Rdr wz p ad cap bs j ∧ Kb p w wz ∧ Hid (glu L (rdK n bs (cnt - k) A j) = R)) (fun _ _ c _ => cnt - vnatW c)
  case atStart => exact ⟨0, [], -1, i + 1, rfl, rfl, Nat.zero_le _, rfl, World.ownsRow_nil _ _ _ _, hr1, hk1, by show glu [] _ = R; rw [glu_nil]; exact HR.out⟩
  case round =>
    obtain ⟨k, L, A, j, rfl, rfl, hk, hL, hrow, hr, hkb, HK⟩ := hrel
    clear hr1 hk1 HR
    by_cases hkl : k < cnt
    · have hki : (k : Int) < (cnt : Int) := by omega
      obtain ⟨m, hm⟩ : ∃ m, cnt - k = m + 1 := ⟨cnt - k - 1, by omega⟩
      have HK2 := HK.out
      rw [hm] at HK2
      clear HK
      by_cases hs : bs.length < j + 5
      · rw [rdK_short hs] at HK2
        have HF : Hid (R = .error 76) := HK2.symm
        have hta : Calls Try.prog 61 #[.pointer (some ⟨p, 0, none⟩), .int .i64 5] wr _ := take_no hr 5 hs
        have hp := hr.lt
        clear HK2
        go_wp2_with (go_at_call 61; (with_reducible refine hta.mono ?_); rintro e w1 ⟨rfl, hb⟩)
        exact ⟨rfl, nwo_err HF.out (hkb.trans (Kb.below hb (Nat.le_of_lt hp)))⟩
      · have hta : Calls Try.prog 61 #[.pointer (some ⟨p, 0, none⟩), .int .i64 5] wr fun e w' => ∃ a c, e = .returned (.slice a 5 c) ∧ 5 ≤ c ∧ RdB w' a ((bs.drop j).take 5) ∧ Rdr w' p ad cap bs (j + 5) ∧ Kb p wr w' := take_ok hr 5 (by decide) (by omega)
        have hj5 : j + 5 ≤ bs.length := by omega
        have g0 := sub_get (k := 0) hj5 (by decide)
        have g1 := sub_get (k := 1) hj5 (by decide)
        have b0 := getD_byt hr.byt j
        have b1 := getD_byt hr.byt (j + 1)
        rw [Nat.add_zero] at g0
        have hne5 : ((bs.drop j).take 5) ≠ [] := fun e => by rw [e] at g0; simp at g0
        have hnu : ∀ (a : Addr) (c : Nat) (W : World), RdB W (some a) ((bs.drop (j + 2)).take 3) → Calls Try.prog 71 #[.slice (some a) 3 c] W fun e w' => e = .returned (.int .i64 (nm bs (j + 2) 3 : Nat)) ∧ w' = W := fun a c W hr2 => by
          have := numberOf_any (some a) c ((bs.drop (j + 2)).take 3) W hr2 ((hr.byt.drop _).take _) (by rw [sub_len (by omega)]; decide)
          rw [sub_len (by omega)] at this
          exact this
        have HSS : Hid ((((bs.drop j).take 5).drop 2).take 3 = (bs.drop (j + 2)).take 3) := sub_sub bs j
        have HX : Hid (∀ B, (vl n (bs.getD j 0 : Nat) (nm bs (j + 2) 3 : Nat) (bs.getD (j + 1) 0 : Nat) && decide (A < ((bs.getD j 0 : Nat) : Int))) = B → R = if B = false then .error 75 else glu (L ++ [(((bs.getD j 0 : Nat) : Int), ((nm bs (j + 2) 3 : Nat) : Int), ((bs.getD (j + 1) 0 : Nat) : Int))]) (rdK n bs m (bs.getD j 0 : Nat) (j + 5))) := by
          intro B hB
          cases B with
          | false => rw [rdK_bad hs hB] at HK2; rw [if_pos rfl]; exact HK2.symm
          | true => rw [rdK_next hs (by rw [hB]; decide), glu_glu] at HK2; rw [if_neg (by decide)]; exact HK2.symm
        clear HK2
        generalize nm bs (j + 2) 3 = T at *
        generalize bs.getD j 0 = O at *
        generalize bs.getD (j + 1) 0 = Q at *
        have hva := valid_any (n : Int) (O : Int) (T : Int) (Q : Int)
        go_wp2_with (go_at_call 61; (with_reducible refine hta.mono ?_); rintro e V ⟨a5, c5, rfl, hc5, hb5, hrV, hkV⟩)
        obtain ⟨b, off, rfl, hbV, hat⟩ := hb5 hne5
        have x0 := hat 0 _ g0
        have x1 := hat 1 _ g1
        rw [Nat.add_zero] at x0
        have hrowV : V.ownsRow w.heap.size 82 3 _ k (fl L) := ownsRow_kb hrow hkV (fun g hg => by have := own_block hrow g hg; have := h.lt; omega)
        have hat3 := hat.sub 2 3
        rw [HSS.out] at hat3
        rename_i Q0 K0 hK
        refine wp_region_any hmx ?_
        refine wpAny_tabG (G := (Nat)) (fun g i__ => ([(.slice (some ⟨b, off, none⟩) 5 c5), (.pointer (some ⟨b, off, none⟩)), (.int .u8 (O : Int)), (.int .i64 (O : Int)), (.slice (some ⟨b, off, none⟩) 5 c5), (.pointer (some ⟨b, off + 1, none⟩)), (.int .u8 (Q : Int)), (.int .i64 (Q : Int)), (.slice (some ⟨b, off, none⟩) 5 c5), (.slice (some ⟨b, off + 2, none⟩) 3 (c5 - 2)), (.int .i64 (T : Int)), (nt O T Q), (.pointer (some ⟨g, 0, none⟩)), undef] : List Value).getD i__ undef) (fun g d W => JN V O T Q g (d 12) (d 13) W) (by kernel_rfl) (0) ⟨(Below.refl _ _).drew, fun e => by cases e⟩ ?step1 ?fin1
        case step1 =>
          intro i o ho
          have hi : i < 14 := getElem?_lt ho
          match i, hi, ho with
          | 0, _, ho =>
            cases ho
            refine stepG_of (fun g d hdep => ?_)
            exact step_move rfl trivial _ rfl (by kernel_rfl)
          | 1, _, ho =>
            cases ho
            refine stepG_of (fun g d hdep => ?_)
            exact step_indexAddr rfl trivial _ _ _ _ _ rfl rfl rfl (fun w hw => idx_b b off 5 c5 0 (by decide) w)
          | 2, _, ho =>
            cases ho
            refine stepG_of (fun g d hdep => ?_)
            exact step_load rfl trivial _ _ _ rfl rfl (fun w hw => load_b ((hw.below.cell (p := ⟨b, off, none⟩) hbV).trans x0))
          | 3, _, ho =>
            cases ho
            refine stepG_of (fun g d hdep => ?_)
            exact step_convert rfl trivial _ _ _ _ rfl rfl (fun w hw => conv_int .i64 _ (by rw [Try.underlying5]; rfl) Try.underlying3 (by rw [IntKind.wrap_i64]; omega) w)
          | 4, _, ho =>
            cases ho
            refine stepG_of (fun g d hdep => ?_)
            exact step_move rfl trivial _ rfl (by kernel_rfl)
          | 5, _, ho =>
            cases ho
            refine stepG_of (fun g d hdep => ?_)
            exact step_indexAddr rfl trivial _ _ _ _ _ rfl rfl rfl (fun w hw => idx_b b off 5 c5 1 (by decide) w)
          | 6, _, ho =>
            cases ho
            refine stepG_of (fun g d hdep => ?_)
            exact step_load rfl trivial _ _ _ rfl rfl (fun w hw => load_b ((hw.below.cell (p := ⟨b, off + 1, none⟩) hbV).trans x1))
          | 7, _, ho =>
            cases ho
            refine stepG_of (fun g d hdep => ?_)
            exact step_convert rfl trivial _ _ _ _ rfl rfl (fun w hw => conv_int .i64 _ (by rw [Try.underlying5]; rfl) Try.underlying3 (by rw [IntKind.wrap_i64]; omega) w)
          | 8, _, ho =>
            cases ho
            refine stepG_of (fun g d hdep => ?_)
            exact step_move rfl trivial _ rfl (by kernel_rfl)
          | 9, _, ho =>
            cases ho
            refine stepG_of (fun g d hdep => ?_)
            exact step_slice rfl trivial _ _ _ _ _ (some (Go.Value.int Go.IntKind.i64 2)) none rfl rfl rfl rfl (fun w hw => slice_2 b off 5 c5 (by decide) hc5 w)
          | 10, _, ho =>
            cases ho
            refine stepG_of (fun g d hdep => ?_)
            exact step_call rfl trivial 71 _ _ [(.slice (some ⟨b, off + 2, none⟩) 3 (c5 - 2))] rfl (by kernel_rfl) (enters_of Try.func71 (by kernel_rfl) rfl) (fun w hw => (hnu _ _ w (fun _ => ⟨b, off + 2, rfl, Nat.lt_of_lt_of_le hbV hw.below.size, hat3.carry (hw.below.block b hbV)⟩)).mono (by rintro e w' ⟨rfl, rfl⟩; exact ⟨rfl, hw⟩))
          | 11, _, ho =>
            cases ho
            exact stepG_of (fun g d hdep => step_build3 rfl trivial _ _ _ _ _ _ _ (.int .i64 (O : Int)) (.int .i64 (Q : Int)) (.int .i64 (T : Int)) rfl (by kernel_rfl) (by kernel_rfl) (by kernel_rfl) (fun w hw => build_nt O T Q w))
          | 12, _, ho =>
            cases ho
            exact stepG_newN rfl rfl rfl (fun g d W' hJ hun hcl => ⟨W'.heap.size, (fun j hj => match j, hj with | 12, hj => (by rw [hj] at hun; cases hun)  | 0, _ => rfl | 1, _ => rfl | 2, _ => rfl | 3, _ => rfl | 4, _ => rfl | 5, _ => rfl | 6, _ => rfl | 7, _ => rfl | 8, _ => rfl | 9, _ => rfl | 10, _ => rfl | 11, _ => rfl | 13, _ => rfl | _ + 14, _ => rfl), rfl, hJ.new (by cases h : d 13 with | false => rfl | true => exact absurd (hcl 13 _ rfl h 12 (by kernel_rfl)) (by rw [hun]; simp))⟩)
          | 13, _, ho =>
            cases ho
            refine stepG_of (fun g d hdep => ?_)
            exact step_store rfl trivial rfl _ _ _ _ _ rfl rfl rfl (fun w' hw => by have h12 := hdep 12 (by kernel_rfl); rw [h12] at hw; exact ⟨_, hw.store.1, by show JN V O T Q g (d 12) true _; rw [h12]; exact hw.store.2⟩)
        intro g d W hall hW
        first | refine hK _ _ ?_ | refine (‹∀ (a : Act) (w : World), Code.wp Try.prog _ _ a w → _›) _ _ ?_ | skip
        simp only [finL, List.getD_cons_zero, List.getD_cons_succ, Nat.zero_add, Nat.reduceAdd, List.setIfInBounds_toArray, List.set_cons_zero, List.set_cons_succ]
        rw [hall 12 (by decide), hall 13 (by decide)] at hW
        clear hK hall
        have hbW := hW.below
        have hnW : NB W g O T Q := by simpa using (hW.box rfl).2
        have hgV := (hW.box rfl).1
        clear hW
        have hrowW := row_below hrowV hbW
        have hol := own_lt hrowV
        have hrW := hrV.carry hbW
        have hkW := (hkb.trans hkV).trans (Kb.below hbW (Nat.le_of_lt hrV.lt))
        have hre := refuse_yes 75
        have n0 := hnW.c0
        have n1 := hnW.c1
        have n2 := hnW.c2
        unfold nt at hva
        clear hta hnu hrow hr hkb hrV hkV hrowV hat hat3 x0 x1 hb5
        cases hB : vl (n : Int) (O : Int) (T : Int) (Q : Int) with
        | false =>
          rw [hB] at hva
          have HF : Hid (R = .error 75) := by have := HX.out false (by rw [hB]; rfl); rwa [if_pos rfl] at this
          clear HX hB
          go_wp2_with (first | (go_at_call 73; (with_reducible refine (hva _).mono ?_); rintro e u1 ⟨rfl, hb1⟩; have hn1 : NB u1 g O T Q := hnW.carry hb1; have m0 := hn1.c0; have m1 := hn1.c1; have m2 := hn1.c2) | (go_at_call 55; (with_reducible refine (hre _).mono ?_); rintro e u2 ⟨rfl, hu⟩; rw [hu]; clear hu u2))
          exact ⟨rfl, nwo_err HF.out (hkW.trans (Kb.below hb1 (Nat.le_of_lt hrW.lt)))⟩
        | true =>
          rw [hB] at hva
          by_cases hA : A < (O : Int)
          case neg =>
            have HF : Hid (R = .error 75) := by have := HX.out false (by rw [hB, decide_eq_false hA]; rfl); rwa [if_pos rfl] at this
            have hA' : (O : Int) ≤ A := by omega
            clear HX hB
            go_wp2_with (first | (go_at_call 73; (with_reducible refine (hva _).mono ?_); rintro e u1 ⟨rfl, hb1⟩; have hn1 : NB u1 g O T Q := hnW.carry hb1; have m0 := hn1.c0; have m1 := hn1.c1; have m2 := hn1.c2) | (go_at_call 55; (with_reducible refine (hre _).mono ?_); rintro e u2 ⟨rfl, hu⟩; rw [hu]; clear hu u2))
            exact ⟨rfl, nwo_err HF.out (hkW.trans (Kb.below hb1 (Nat.le_of_lt hrW.lt)))⟩
          have HF : Hid (R = glu (L ++ [((O : Int), (T : Int), (Q : Int))]) (rdK n bs m (O : Int) (j + 5))) := by have := HX.out true (by rw [hB, decide_eq_true hA]; rfl); rwa [if_neg (by decide)] at this
          have hdc : decide ((O : Int) ≤ A) = false := decide_eq_false (by omega)
          have hwl := h.lt
          have hbs : w.heap.size ≤ W.heap.size := Nat.le_trans hkW.1.size (Nat.le_refl _)
          obtain ⟨ic, hic, hz0, hz1, hz2⟩ := info_partsN
          clear HX hB
          go_wp2_with (first | (go_at_call 73; (with_reducible refine (hva _).mono ?_); rintro e u1 ⟨rfl, hb1⟩; have hn1 : NB u1 g O T Q := hnW.carry hb1; have m0 := hn1.c0; have m1 := hn1.c1; have m2 := hn1.c2) | (go_at_call 55; (with_reducible refine (hre0 _).mono ?_); rintro e u2 ⟨rfl, hu⟩; rw [hu]; clear hu u2) | (at_builtin; refine wpList_append_own_at _ rfl _ _ 39 rfl w.heap.size 82 ic _ 3 24 Try.underlying39 hic hz0 hz1 hz2 rfl (by decide) _ k (fl L) rfl (World.ownsRow.alloc (row_below hrowW hb1) _) ⟨u1.heap.size, 0, none⟩ 1 1 [_, _, _] rfl rfl (rowN _ #[_, _, _] _) (by simp [Value.oneCell']) (by unfold maxLen; omega) (by omega) (by have := hb1.size; simp; omega) ?_; intro v' w2 hown' hgrow _ hob; have hn2 : NB w2 g O T Q := (hgrow.block _ (by have := hn1.lt; simp; omega) (fun e => by have := hol _ e.symm; omega)).trans (old_at hn1); have m3 := hn2.c0))
          go_roundw
          case rel =>
            refine ⟨k + 1, L ++ [((O : Int), (T : Int), (Q : Int))], (O : Int), j + 5, by simp, rfl, by omega, by simp [hL], ?_, ?_, ?_, ?_⟩
            · rw [fl_append]
              exact hown'
            · exact (hrW.carry hb1).grow hgrow (fun _ e => by have := own_block hrowW _ e; omega)
            · exact (hkW.trans (Kb.below hb1 (Nat.le_of_lt hrW.lt))).grow hwl hgrow (fun _ e => own_block hrowW _ e)
            · show glu _ _ = R
              rw [HF.out, show cnt - (k + 1) = m by omega]
          case measure => simp [vnatW]; omega
    · have hkk : k = cnt := by omega
      subst hkk
      have hki : ¬ ((k : Int) < (k : Int)) := by omega
      have HE : Hid (R = .ok (L, j)) := by
        have := HK.out
        rw [Nat.sub_self, rdK, glu, List.append_nil] at this
        exact this.symm
      clear HK
      go_wp2
      go_ret
      rw [HE.out]
      exact ⟨_, rfl, hL ▸ hrow, hr, hkb⟩
end Go.Proofs.Ytndogopllcpiiaa
