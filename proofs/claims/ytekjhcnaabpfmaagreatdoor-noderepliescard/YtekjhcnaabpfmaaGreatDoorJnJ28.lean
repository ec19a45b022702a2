import Derived.Test.YtekjhcnaabpfmaaGreatDoorJnJ27
import Derived.Test.YtekjhcnaabpfmaaGreatDoorJnJ0
import Derived.Test.YtekjhcnaabpfmaaGreatDoorJnJ25
import Derived.Test.YtekjhcnaabpfmaaGreatDoorJnJ26
import Derived.Test.YtekjhcnaabpfmaaGreatDoorJnJ6
set_option maxHeartbeats 40000000
set_option maxRecDepth 100000
set_option linter.unusedVariables false
namespace Go.Proofs.YtekjhcnaabpfmaaGreatDoor
open Go.RowKit Go.Shelf
theorem step_build3 {P : Program} {md : Region.Mode} {ops : Array Oper} {Q : Exit → Act → World → Prop} {X0 : Array Value} {val : Nat → Value} {J : World → Prop} {i : Nat} {o : Oper} (hi : ops[i]? = some o) (hg : GOk md ops X0 val i o) (t : TypeId) (a b c : Nat) (x y z : Operand) (p q r : Value) (ho : o.op = .build t #[(a, x), (b, y), (c, z)]) (hx : rdo md ops X0 val i o x = some p) (hy : rdo md ops X0 val i o y = some q) (hz : rdo md ops X0 val i o z = some r)
  (hr : ∀ w, J w → (Instr.build t #[(a, p), (b, q), (c, r)]).run P w = .ok (val i) w) : StepAt P md ops Q X0 val J J i o :=
 step_of hi hg fun a w hJ hS => by
  unfold Oper.wp execOp
  simp only [ho, hS.eval hx, hS.eval hy, hS.eval hz, List.map_toArray, List.map_cons, List.map_nil, Sem.run_bind, hr w hJ, Result.andThen_ok, Sem.run_pure, Oper.upon_value]
  exact ⟨trivial, hJ⟩
theorem run_allocN (w : World) : (Instr.alloc 65 true (.tuple #[])).run Tryz.prog w = .ok (.pointer (some ⟨w.heap.size, 0, none⟩)) (w.alloc (.cells #[.int .i64 0, .int .i64 0, .int .i64 0] 65)) := by go_simp
theorem stepG_newN {G : Type} {md : Region.Mode} {ops : Array Oper} {Q : Exit → Act → World → Prop} {X0 : Array Value} {val : G → Nat → Value} {J : G → (Nat → Bool) → World → Prop} {i : Nat} {o : Oper} (hi : ops[i]? = some o) (hg : o.guard = none) (ho : o.op = .alloc 65)
  (h : ∀ g d W, J g d W → d i = false → (∀ j oj, ops[j]? = some oj → d j = true → ∀ k, bindsOn md oj k = true → d k = true) → ∃ g', (∀ j, d j = true → val g' j = val g j) ∧ val g' i = .pointer (some ⟨W.heap.size, 0, none⟩) ∧ J g' (fun j => if j = i then true else d j) (W.alloc (.cells #[.int .i64 0, .int .i64 0, .int .i64 0] 65))) : StepG Tryz.prog md ops Q X0 val J i o := by
 intro g d a W hJ hun _ hcl _
 obtain ⟨g', h1, h2, h3⟩ := h g d W hJ hun hcl
 unfold wpOp
 rw [hi]
 simp only [Region.wanted, hg, if_true]
 refine .inl ?_
 unfold Oper.wp execOp
 simp only [ho, Sem.run_bind, run_allocN, Result.andThen_ok, Sem.run_pure, Oper.upon_value]
 exact ⟨g', h1, by rw [h2], h3⟩
structure JNW (Z : World) (o t k : Int) (g : Nat) (x y : Bool) (W : World) : Prop where
 below : Below Z.heap.size Z W
 box : x = true → Z.heap.size ≤ g ∧ NB W g (if y = true then o else 0) (if y = true then t else 0) (if y = true then k else 0)
theorem JNW.new {Z W : World} {o t k : Int} {g : Nat} {x y : Bool} (h : JNW Z o t k g x y W) (hy : y = false) : JNW Z o t k W.heap.size true y (W.alloc (.cells #[.int .i64 0, .int .i64 0, .int .i64 0] 65)) := by
 subst hy
 exact ⟨h.below.alloc h.below.size _, fun _ => ⟨h.below.size, NB.new _ _ _ _⟩⟩
theorem JNW.store {Z W : World} {o t k : Int} {g : Nat} {y : Bool} (h : JNW Z o t k g true y W) : (Instr.storeAt 65 (.pointer (some ⟨g, 0, none⟩)) (nt o t k)).run Tryz.prog W = .ok () (W3 W g o t k) ∧ JNW Z o t k g true true (W3 W g o t k) :=
 ⟨store_nt (h.box rfl).2 o t k, below3 h.below (h.box rfl).1 _ _ _, fun _ => ⟨(h.box rfl).1, by simpa using (h.box rfl).2.set o t k⟩⟩
theorem slice_2 (b off len cap : Nat) (h1 : 2 < len) (h2 : len ≤ cap) (W : World) : (Instr.sliceAt 23 (.slice (some ⟨b, off, none⟩) len cap) (some (.int .i64 2)) none none).run Tryz.prog W = .ok (.slice (some ⟨b, off + 2, none⟩) (len - 2) (cap - 2)) W := by
 have q1 : (2 : Int) ≤ (len : Int) := by omega
 have q2 : (len : Int) ≤ (cap : Int) := by omega
 go_simp
 omega
theorem idx_b (b off len cap k : Nat) (h : k < len) (W : World) : (Instr.indexAt 23 (.slice (some ⟨b, off, none⟩) len cap) (.int .i64 (k : Int))).run Tryz.prog W = .ok (.pointer (some ⟨b, off + k, none⟩)) W := by
 have q1 : (k : Int) < (len : Int) := by omega
 go_simp
theorem load_b {W : World} {b j x : Nat} (h : W.cell? ⟨b, j, none⟩ = some (.int .u8 (x : Int))) : (Instr.loadAt 5 (.pointer (some ⟨b, j, none⟩))).run Tryz.prog W = .ok (.int .u8 (x : Int)) W := by
 go_simp
theorem build_nt (o t k : Int) (W : World) : (Instr.build 65 #[(0, .int .i64 o), (2, .int .i64 k), (1, .int .i64 t)]).run Tryz.prog W = .ok (nt o t k) W := by
 unfold nt
 go_simp
theorem ownsRow_kb {w w' : World} {p base : Nat} {e : TypeId} {size : Nat} {v : Value} {n : Nat} {xs : List Value} (h : w.ownsRow base e size v n xs) (hk : Kb p w w') (hne : ∀ g, v.ownBlock = some g → g ≠ p) : w'.ownsRow base e size v n xs := by
 obtain ⟨h1, h2⟩ := h
 refine ⟨h1, ?_⟩
 rcases h2 with h2 | ⟨g, cap, cur, h3, h4, h5, h6⟩
 · exact .inl h2
 · exact .inr ⟨g, cap, cur, h3, h4, (hk.2 g (hne g (by rw [h3]; rfl)) (zla h5)).trans h5, h6⟩
theorem Kb.grow {p : Nat} {w u u' : World} {o : Obj} {row : Option Nat} (h : Kb p w u) (hp : p < w.heap.size) (hg : (u.alloc o).grownBy u' row) (hr : ∀ k, row = some k → w.heap.size ≤ k) : Kb p w u' := by
 have hs := h.1.size
 refine ⟨(h.1.alloc (by omega) o).grown hg (by simp; omega) (fun k e => by have := hr k e; omega), fun b h1 h2 => ?_⟩
 rw [hg.block b (by simp; omega) (fun e => by have := hr b e.symm; omega), Below.heap_alloc u o b (by omega)]
 exact h.2 b h1 h2
theorem Rdr.grow {u u' : World} {p : Nat} {ad : Option Addr} {cap : Nat} {bs : List Nat} {i : Nat} {o : Obj} {row : Option Nat} (h : Rdr u p ad cap bs i) (hg : (u.alloc o).grownBy u' row) (hr : ∀ k, row = some k → p < k) : Rdr u' p ad cap bs i := by
 have hp := h.lt
 have key : ∀ b, b ≤ p → u'.heap[b]? = u.heap[b]? := fun b hb => by
  rw [hg.block b (by simp; omega) (fun e => by have := hr b e.symm; omega), Below.heap_alloc u o b (by omega)]
 refine ⟨(key p (Nat.le_refl _)).trans h.box, fun hne => ?_, h.le, h.byt, h.ln, h.cp⟩
 obtain ⟨b, off, h1, h2, h3⟩ := h.rd hne
 exact ⟨b, off, h1, h2, h3.carry (key b (Nat.le_of_lt h2))⟩
def NwO (p : Nat) (ad : Option Addr) (cap : Nat) (bs : List Nat) (R : Except Int (List (Int × Int × Int) × Nat)) (w : World) (e : Ending) (w' : World) : Prop :=
 match R with
 | .error er => e = .panicked (rfu er) ∧ Kb p w w'
 | .ok (l, j) => ∃ v, e = .returned v ∧ w'.ownsRow w.heap.size 65 3 v l.length (fl l) ∧ Rdr w' p ad cap bs j ∧ Kb p w w'
theorem nwo_err {p : Nat} {ad : Option Addr} {cap : Nat} {bs : List Nat} {R : Except Int (List (Int × Int × Int) × Nat)} {w w' : World} {er : Int} (h : R = .error er) (hk : Kb p w w') : NwO p ad cap bs R w (.panicked (rfu er)) w' := by
 subst h
 exact ⟨rfl, hk⟩
theorem getD_byt {l : List Nat} (h : BytW l) (i : Nat) : l.getD i 0 < 256 := by
 rw [List.getD_eq_getElem?_getD]
 cases hx : l[i]? with
 | none => exact (by decide : (0 : Nat) < 256)
 | some x => exact byt_get8W h hx
theorem getD_some {l : List Nat} {i : Nat} (h : i < l.length) : l[i]? = some (l.getD i 0) := by
 rw [List.getD_eq_getElem?_getD, List.getElem?_eq_getElem h]
 rfl
theorem sub_get {bs : List Nat} {i m k : Nat} (h : i + m ≤ bs.length) (hk : k < m) : ((bs.drop i).take m)[k]? = some (bs.getD (i + k) 0) := by
 rw [List.getElem?_take, if_pos hk, List.getElem?_drop]
 exact getD_some (by omega)
theorem sub_sub (bs : List Nat) (i : Nat) : (((bs.drop i).take 5).drop 2).take 3 = (bs.drop (i + 2)).take 3 := by
 rw [List.drop_take, List.drop_drop, List.take_take]
 rfl
theorem news_any {w : World} {p : Nat} {ad : Option Addr} {cap : Nat} {bs : List Nat} {i : Nat} (h : Rdr w p ad cap bs i) (n : Nat) (hn : n ≤ 100) : Calls Tryz.prog 76 #[.pointer (some ⟨p, 0, none⟩), .int .i64 (n : Int)] w (NwO p ad cap bs (rdW n bs i) w) := by
 have hmx := mixO
 obtain ⟨R, hR⟩ : ∃ R, rdW n bs i = R := ⟨_, rfl⟩
 rw [hR]
 by_cases h1 : bs.length < i + 1
 · rw [rdW, if_pos h1] at hR
   have HR : Hid (R = .error 76) := hR.symm
   have hnu : Calls Tryz.prog 68 #[.pointer (some ⟨p, 0, none⟩), .int .i64 1] w _ := number_no h 1 h1
   have hp := h.lt
   clear hR
   go_enter Tryz.func76, Tryz.ntmps76
   go_wp2_with (go_at_call 68; (with_reducible refine hnu.mono ?_); rintro e w1 ⟨rfl, hb⟩)
   exact ⟨rfl, nwo_err HR.out (Kb.below hb (Nat.le_of_lt hp))⟩
 rw [rdW, if_neg h1] at hR
 have hnu : Calls Tryz.prog 68 #[.pointer (some ⟨p, 0, none⟩), .int .i64 1] w fun e w' => e = .returned (.int .i64 (nmW bs i 1 : Nat)) ∧ Rdr w' p ad cap bs (i + 1) ∧ Kb p w w' := number_ok h 1 (by decide) (by decide) (by omega)
 have hc256 : nmW bs i 1 < 256 := by
   have := valB_ltW _ ((h.byt.drop i).take 1)
   rw [sub_len (by omega)] at this
   exact this
 generalize nmW bs i 1 = cnt at *
 by_cases h2 : n < cnt
 · rw [if_pos h2] at hR
   have HR : Hid (R = .error 75) := hR.symm
   have hre := refuse_yes 75
   have h2i : (n : Int) < (cnt : Int) := by omega
   clear hR
   go_enter Tryz.func76, Tryz.ntmps76
   go_wp2_with (first | (go_at_call 68; (with_reducible refine hnu.mono ?_); rintro e w1 ⟨rfl, hr1, hk1⟩) | (go_at_call 67; (with_reducible refine (hre _).mono ?_); rintro e w2 ⟨rfl, hu⟩; rw [hu]; clear hu w2))
   exact ⟨rfl, nwo_err HR.out hk1⟩
 rw [if_neg h2] at hR
 have h2i : ¬ (n : Int) < (cnt : Int) := by omega
 have hre0 := zrn 75
 have HR : Hid (rdK n bs cnt (-1) (i + 1) = R) := hR
 clear hR
 go_enter Tryz.func76, Tryz.ntmps76
 go_wp2_with (first | (go_at_call 68; (with_reducible refine hnu.mono ?_); rintro e w1 ⟨rfl, hr1, hk1⟩) | (go_at_call 67; (with_reducible refine (hre0 _).mono ?_); rintro e w2 ⟨rfl, hu⟩; rw [hu]; clear hu w2))
 clear hnu
 go_loopw [6, 7, 17] (fun v a c wz => ∃ (k : Nat) (L : List (Int × Int × Int)) (A : Int) (j : Nat), c = .int .i64 k ∧ a = .int .i64 A ∧ k ≤ cnt ∧ L.length = k ∧ wz.ownsRow w.heap.size 65 3 v k (fl L) ∧ Rdr wz p ad cap bs j ∧ Kb p w wz ∧ Hid (glu L (rdK n bs (cnt - k) A j) = R)) (fun _ _ c _ => cnt - vnatW c)
 case atStart => exact ⟨0, [], -1, i + 1, rfl, rfl, Nat.zero_le _, rfl, World.ownsRow_nil _ _ _ _, hr1, hk1, by show glu [] _ = R; rw [glu_nil]; exact HR.out⟩
 case round =>
   obtain ⟨k, L, A, j, rfl, rfl, hk, hL, hrow, hr, hkb, HK⟩ := hrel
   clear hr1 hk1 HR
   by_cases hkl : k < cnt
   · have hki : (k : Int) < (cnt : Int) := by omega
     obtain ⟨m, hm⟩ : ∃ m, cnt - k = m + 1 := ⟨cnt - k - 1, by omega⟩
     have HK2 := HK.out
     rw [hm] at HK2
     clear HK
     by_cases hs : bs.length < j + 5
     · rw [rdK_short hs] at HK2
       have HF : Hid (R = .error 76) := HK2.symm
       have hta : Calls Tryz.prog 73 #[.pointer (some ⟨p, 0, none⟩), .int .i64 5] wr _ := take_no hr 5 hs
       have hp := hr.lt
       clear HK2
       go_wp2_with (go_at_call 73; (with_reducible refine hta.mono ?_); rintro e w1 ⟨rfl, hb⟩)
       exact ⟨rfl, nwo_err HF.out (hkb.trans (Kb.below hb (Nat.le_of_lt hp)))⟩
     · have hta : Calls Tryz.prog 73 #[.pointer (some ⟨p, 0, none⟩), .int .i64 5] wr fun e w' => ∃ a c, e = .returned (.slice a 5 c) ∧ 5 ≤ c ∧ RdBW w' a ((bs.drop j).take 5) ∧ Rdr w' p ad cap bs (j + 5) ∧ Kb p wr w' := take_ok hr 5 (by decide) (by omega)
       have hj5 : j + 5 ≤ bs.length := by omega
       have g0 := sub_get (k := 0) hj5 (by decide)
       have g1 := sub_get (k := 1) hj5 (by decide)
       have b0 := getD_byt hr.byt j
       have b1 := getD_byt hr.byt (j + 1)
       rw [Nat.add_zero] at g0
       have hne5 : ((bs.drop j).take 5) ≠ [] := fun e => by rw [e] at g0; simp at g0
       have hnu : ∀ (a : Addr) (c : Nat) (W : World), RdBW W (some a) ((bs.drop (j + 2)).take 3) → Calls Tryz.prog 111 #[.slice (some a) 3 c] W fun e w' => e = .returned (.int .i64 (nmW bs (j + 2) 3 : Nat)) ∧ w' = W := fun a c W hr2 => by
        have := numberOf_any (some a) c ((bs.drop (j + 2)).take 3) W hr2 ((hr.byt.drop _).take _) (by rw [sub_len (by omega)]; decide)
        rw [sub_len (by omega)] at this
        exact this
       have HSS : Hid ((((bs.drop j).take 5).drop 2).take 3 = (bs.drop (j + 2)).take 3) := sub_sub bs j
       have HX : Hid (∀ B, (vl n (bs.getD j 0 : Nat) (nmW bs (j + 2) 3 : Nat) (bs.getD (j + 1) 0 : Nat) && decide (A < ((bs.getD j 0 : Nat) : Int))) = B → R = if B = false then .error 75 else glu (L ++ [(((bs.getD j 0 : Nat) : Int), ((nmW bs (j + 2) 3 : Nat) : Int), ((bs.getD (j + 1) 0 : Nat) : Int))]) (rdK n bs m (bs.getD j 0 : Nat) (j + 5))) := by
        intro B hB
        cases B with
        | false => rw [rdK_bad hs hB] at HK2; rw [if_pos rfl]; exact HK2.symm
        | true => rw [rdK_next hs (by rw [hB]; decide), glu_glu] at HK2; rw [if_neg (by decide)]; exact HK2.symm
       clear HK2
       generalize nmW bs (j + 2) 3 = T at *
       generalize bs.getD j 0 = O at *
       generalize bs.getD (j + 1) 0 = Q at *
       have hva := valid_any (n : Int) (O : Int) (T : Int) (Q : Int)
       go_wp2_with (go_at_call 73; (with_reducible refine hta.mono ?_); rintro e V ⟨a5, c5, rfl, hc5, hb5, hrV, hkV⟩)
       obtain ⟨b, off, rfl, hbV, hat⟩ := hb5 hne5
       have x0 := hat 0 _ g0
       have x1 := hat 1 _ g1
       rw [Nat.add_zero] at x0
       have hrowV : V.ownsRow w.heap.size 65 3 _ k (fl L) := ownsRow_kb hrow hkV (fun g hg => by have := own_block hrow g hg; have := h.lt; omega)
       have hat3 := hat.sub 2 3
       rw [HSS.out] at hat3
       rename_i Q0 K0 hK
       refine wp_region_any hmx ?_
       refine zwt (G := (Nat)) (fun g i__ => ([(.slice (some ⟨b, off, none⟩) 5 c5), (.pointer (some ⟨b, off, none⟩)), (.int .u8 (O : Int)), (.int .i64 (O : Int)), (.slice (some ⟨b, off, none⟩) 5 c5), (.pointer (some ⟨b, off + 1, none⟩)), (.int .u8 (Q : Int)), (.int .i64 (Q : Int)), (.slice (some ⟨b, off, none⟩) 5 c5), (.slice (some ⟨b, off + 2, none⟩) 3 (c5 - 2)), (.int .i64 (T : Int)), (nt O T Q), (.pointer (some ⟨g, 0, none⟩)), undef] : List Value).getD i__ undef) (fun g d W => JNW V O T Q g (d 12) (d 13) W) (by kernel_rfl) (0) ⟨(Below.refl _ _).drew, fun e => by cases e⟩ ?step4 ?fin4
       case step4 =>
        intro i o ho
        have hi : i < 14 := getElem?_lt ho
        match i, hi, ho with
        | 0, _, ho => cases ho; exact zgo fun g d hdep => zmv rfl trivial _ rfl (by kernel_rfl)
        | 1, _, ho => cases ho; exact zgo fun g d hdep => zia rfl trivial _ _ _ _ _ rfl rfl rfl (fun w hw => idx_b b off 5 c5 0 (by decide) w)
        | 2, _, ho => cases ho; exact zgo fun g d hdep => zld rfl trivial _ _ _ rfl rfl (fun w hw => load_b ((hw.below.cell (p := ⟨b, off, none⟩) hbV).trans x0))
        | 3, _, ho => cases ho; exact zgo fun g d hdep => step_convert rfl trivial _ _ _ _ rfl rfl (fun w hw => conv_int .i64 _ (by rw [Tryz.underlying5]; rfl) Tryz.underlying3 (by rw [IntKind.wrap_i64]; omega) w)
        | 4, _, ho => cases ho; exact zgo fun g d hdep => zmv rfl trivial _ rfl (by kernel_rfl)
        | 5, _, ho => cases ho; exact zgo fun g d hdep => zia rfl trivial _ _ _ _ _ rfl rfl rfl (fun w hw => idx_b b off 5 c5 1 (by decide) w)
        | 6, _, ho => cases ho; exact zgo fun g d hdep => zld rfl trivial _ _ _ rfl rfl (fun w hw => load_b ((hw.below.cell (p := ⟨b, off + 1, none⟩) hbV).trans x1))
        | 7, _, ho => cases ho; exact zgo fun g d hdep => step_convert rfl trivial _ _ _ _ rfl rfl (fun w hw => conv_int .i64 _ (by rw [Tryz.underlying5]; rfl) Tryz.underlying3 (by rw [IntKind.wrap_i64]; omega) w)
        | 8, _, ho => cases ho; exact zgo fun g d hdep => zmv rfl trivial _ rfl (by kernel_rfl)
        | 9, _, ho => cases ho; exact zgo fun g d hdep => step_slice rfl trivial _ _ _ _ _ (some (Go.Value.int Go.IntKind.i64 2)) none rfl rfl rfl rfl (fun w hw => slice_2 b off 5 c5 (by decide) hc5 w)
        | 10, _, ho => cases ho; exact zgo fun g d hdep => zsc rfl trivial 111 _ _ [(.slice (some ⟨b, off + 2, none⟩) 3 (c5 - 2))] rfl (by kernel_rfl) (enters_of Tryz.func111 (by kernel_rfl) rfl) (fun w hw => (hnu _ _ w (fun _ => ⟨b, off + 2, rfl, Nat.lt_of_lt_of_le hbV hw.below.size, hat3.carry (hw.below.block b hbV)⟩)).mono (by rintro e w' ⟨rfl, rfl⟩; exact ⟨rfl, hw⟩))
        | 11, _, ho => cases ho; exact zgo (fun g d hdep => step_build3 rfl trivial _ _ _ _ _ _ _ (.int .i64 (O : Int)) (.int .i64 (Q : Int)) (.int .i64 (T : Int)) rfl (by kernel_rfl) (by kernel_rfl) (by kernel_rfl) (fun w hw => build_nt O T Q w))
        | 12, _, ho => cases ho; exact stepG_newN rfl rfl rfl (fun g d W' hJ hun hcl => ⟨W'.heap.size, (fun j hj => match j, hj with | 12, hj => (by rw [hj] at hun; cases hun)  | 0, _ => rfl | 1, _ => rfl | 2, _ => rfl | 3, _ => rfl | 4, _ => rfl | 5, _ => rfl | 6, _ => rfl | 7, _ => rfl | 8, _ => rfl | 9, _ => rfl | 10, _ => rfl | 11, _ => rfl | 13, _ => rfl | _ + 14, _ => rfl), rfl, hJ.new (by cases h : d 13 with | false => rfl | true => exact absurd (hcl 13 _ rfl h 12 (by kernel_rfl)) (by rw [hun]; simp))⟩)
        | 13, _, ho => cases ho; exact zgo fun g d hdep => step_store rfl trivial rfl _ _ _ _ _ rfl rfl rfl (fun w' hw => by have h12 := hdep 12 (by kernel_rfl); rw [h12] at hw; exact ⟨_, hw.store.1, by show JNW V O T Q g (d 12) true _; rw [h12]; exact hw.store.2⟩)
       intro g d W hall hW
       first | refine hK _ _ ?_ | refine (‹∀ (a : Act) (w : World), Code.wp Tryz.prog _ _ a w → _›) _ _ ?_ | skip
       simp only [finL, List.getD_cons_zero, List.getD_cons_succ, Nat.zero_add, Nat.reduceAdd, List.setIfInBounds_toArray, List.set_cons_zero, List.set_cons_succ]
       rw [hall 12 (by decide), hall 13 (by decide)] at hW
       clear hK hall
       have hbW := hW.below
       have hnW : NB W g O T Q := by simpa using (hW.box rfl).2
       have hgV := (hW.box rfl).1
       clear hW
       have hrowW := row_belowW hrowV hbW
       have hol := own_lt hrowV
       have hrW := hrV.carry hbW
       have hkW := (hkb.trans hkV).trans (Kb.below hbW (Nat.le_of_lt hrV.lt))
       have hre := refuse_yes 75
       have n0 := hnW.c0
       have n1 := hnW.c1
       have n2 := hnW.c2
       unfold nt at hva
       clear hta hnu hrow hr hkb hrV hkV hrowV hat hat3 x0 x1 hb5
       cases hB : vl (n : Int) (O : Int) (T : Int) (Q : Int) with
       | false =>
        rw [hB] at hva
        have HF : Hid (R = .error 75) := by have := HX.out false (by rw [hB]; rfl); rwa [if_pos rfl] at this
        clear HX hB
        go_wp2_with (first | (go_at_call 113; (with_reducible refine (hva _).mono ?_); rintro e u1 ⟨rfl, hb1⟩; have hn1 : NB u1 g O T Q := hnW.carry hb1; have m0 := hn1.c0; have m1 := hn1.c1; have m2 := hn1.c2) | (go_at_call 67; (with_reducible refine (hre _).mono ?_); rintro e u2 ⟨rfl, hu⟩; rw [hu]; clear hu u2))
        exact ⟨rfl, nwo_err HF.out (hkW.trans (Kb.below hb1 (Nat.le_of_lt hrW.lt)))⟩
       | true =>
        rw [hB] at hva
        by_cases hA : A < (O : Int)
        case neg =>
         have HF : Hid (R = .error 75) := by have := HX.out false (by rw [hB, decide_eq_false hA]; rfl); rwa [if_pos rfl] at this
         have hA' : (O : Int) ≤ A := by omega
         clear HX hB
         go_wp2_with (first | (go_at_call 113; (with_reducible refine (hva _).mono ?_); rintro e u1 ⟨rfl, hb1⟩; have hn1 : NB u1 g O T Q := hnW.carry hb1; have m0 := hn1.c0; have m1 := hn1.c1; have m2 := hn1.c2) | (go_at_call 67; (with_reducible refine (hre _).mono ?_); rintro e u2 ⟨rfl, hu⟩; rw [hu]; clear hu u2))
         exact ⟨rfl, nwo_err HF.out (hkW.trans (Kb.below hb1 (Nat.le_of_lt hrW.lt)))⟩
        have HF : Hid (R = glu (L ++ [((O : Int), (T : Int), (Q : Int))]) (rdK n bs m (O : Int) (j + 5))) := by have := HX.out true (by rw [hB, decide_eq_true hA]; rfl); rwa [if_neg (by decide)] at this
        have hdc : decide ((O : Int) ≤ A) = false := decide_eq_false (by omega)
        have hwl := h.lt
        have hbs : w.heap.size ≤ W.heap.size := Nat.le_trans hkW.1.size (Nat.le_refl _)
        obtain ⟨ic, hic, hz0, hz1, hz2⟩ := info_partsN
        clear HX hB
        go_wp2_with (first | (go_at_call 113; (with_reducible refine (hva _).mono ?_); rintro e u1 ⟨rfl, hb1⟩; have hn1 : NB u1 g O T Q := hnW.carry hb1; have m0 := hn1.c0; have m1 := hn1.c1; have m2 := hn1.c2) | (go_at_call 67; (with_reducible refine (hre0 _).mono ?_); rintro e u2 ⟨rfl, hu⟩; rw [hu]; clear hu u2) | (at_builtin; refine wpList_append_own_at _ rfl _ _ 36 rfl w.heap.size 65 ic _ 3 24 Tryz.underlying36 hic hz0 hz1 hz2 rfl (by decide) _ k (fl L) rfl (World.ownsRow.alloc (row_belowW hrowW hb1) _) ⟨u1.heap.size, 0, none⟩ 1 1 [_, _, _] rfl rfl (rowN _ #[_, _, _] _) (by simp [Value.oneCell']) (by unfold maxLen; omega) (by omega) (by have := hb1.size; simp; omega) ?_; intro v' w2 hown' hgrow _ hob; have hn2 : NB w2 g O T Q := (hgrow.block _ (by have := hn1.lt; simp; omega) (fun e => by have := hol _ e.symm; omega)).trans (zoa hn1); have m3 := hn2.c0))
        go_roundw
        case rel =>
         refine ⟨k + 1, L ++ [((O : Int), (T : Int), (Q : Int))], (O : Int), j + 5, by simp, rfl, by omega, by simp [hL], ?_, ?_, ?_, ?_⟩
         · rw [fl_append]
           exact hown'
         · exact (hrW.carry hb1).grow hgrow (fun _ e => by have := own_block hrowW _ e; omega)
         · exact (hkW.trans (Kb.below hb1 (Nat.le_of_lt hrW.lt))).grow hwl hgrow (fun _ e => own_block hrowW _ e)
         · show glu _ _ = R
           rw [HF.out, show cnt - (k + 1) = m by omega]
        case measure => simp [vnatW]; omega
   · have hkk : k = cnt := by omega
     subst hkk
     have hki : ¬ ((k : Int) < (k : Int)) := by omega
     have HE : Hid (R = .ok (L, j)) := by
       have := HK.out
       rw [Nat.sub_self, rdK, glu, List.append_nil] at this
       exact this.symm
     clear HK
     go_wp2
     go_ret
     rw [HE.out]
     exact ⟨_, rfl, hL ▸ hrow, hr, hkb⟩
end Go.Proofs.YtekjhcnaabpfmaaGreatDoor
namespace Go.Proofs.YtekjhcnaabpfmaaGreatDoor
open Go.RowKit Go.Shelf Go.Lib
attribute [local go_sem] Oper.semAt_some
section
variable {P : Program} {md : Region.Mode} {ops : Array Oper} {Q : Exit → Act → World → Prop} {X0 : Array Value} {val : Nat → Value} {J J' : World → Prop} {i : Nat} {o : Oper}
theorem step_bld3 (hi : ops[i]? = some o) (hg : GOk md ops X0 val i o) (t : TypeId) (k0 k1 k2 : Nat) (x0 x1 x2 : Operand) (v0 v1 v2 : Value) (ho : o.op = .build t #[(k0, x0), (k1, x1), (k2, x2)]) (h0 : rdo md ops X0 val i o x0 = some v0) (h1 : rdo md ops X0 val i o x1 = some v1) (h2 : rdo md ops X0 val i o x2 = some v2) (hr : ∀ w, J w → (Instr.build t #[(k0, v0), (k1, v1), (k2, v2)]).run P w = .ok (val i) w) : StepAt P md ops Q X0 val J J i o :=
 step_of hi hg fun a w hJ hS => by
  unfold Oper.wp execOp
  simp only [ho, hS.eval h0, hS.eval h1, hS.eval h2, List.map_toArray, List.map_cons, List.map_nil, Sem.run_bind, hr w hJ, Result.andThen_ok, Sem.run_pure, Oper.upon_value]
  exact ⟨trivial, hJ⟩
theorem step_bld4 (hi : ops[i]? = some o) (hg : GOk md ops X0 val i o) (t : TypeId) (k0 k1 k2 k3 : Nat) (x0 x1 x2 x3 : Operand) (v0 v1 v2 v3 : Value) (ho : o.op = .build t #[(k0, x0), (k1, x1), (k2, x2), (k3, x3)]) (h0 : rdo md ops X0 val i o x0 = some v0) (h1 : rdo md ops X0 val i o x1 = some v1) (h2 : rdo md ops X0 val i o x2 = some v2) (h3 : rdo md ops X0 val i o x3 = some v3) (hr : ∀ w, J w → (Instr.build t #[(k0, v0), (k1, v1), (k2, v2), (k3, v3)]).run P w = .ok (val i) w) : StepAt P md ops Q X0 val J J i o :=
 step_of hi hg fun a w hJ hS => by
  unfold Oper.wp execOp
  simp only [ho, hS.eval h0, hS.eval h1, hS.eval h2, hS.eval h3, List.map_toArray, List.map_cons, List.map_nil, Sem.run_bind, hr w hJ, Result.andThen_ok, Sem.run_pure, Oper.upon_value]
  exact ⟨trivial, hJ⟩
theorem step_bld8 (hi : ops[i]? = some o) (hg : GOk md ops X0 val i o) (t : TypeId) (k0 k1 k2 k3 k4 k5 k6 k7 : Nat) (x0 x1 x2 x3 x4 x5 x6 x7 : Operand) (v0 v1 v2 v3 v4 v5 v6 v7 : Value) (ho : o.op = .build t #[(k0, x0), (k1, x1), (k2, x2), (k3, x3), (k4, x4), (k5, x5), (k6, x6), (k7, x7)]) (h0 : rdo md ops X0 val i o x0 = some v0) (h1 : rdo md ops X0 val i o x1 = some v1) (h2 : rdo md ops X0 val i o x2 = some v2) (h3 : rdo md ops X0 val i o x3 = some v3) (h4 : rdo md ops X0 val i o x4 = some v4) (h5 : rdo md ops X0 val i o x5 = some v5) (h6 : rdo md ops X0 val i o x6 = some v6) (h7 : rdo md ops X0 val i o x7 = some v7) (hr : ∀ w, J w → (Instr.build t #[(k0, v0), (k1, v1), (k2, v2), (k3, v3), (k4, v4), (k5, v5), (k6, v6), (k7, v7)]).run P w = .ok (val i) w) : StepAt P md ops Q X0 val J J i o :=
 step_of hi hg fun a w hJ hS => by
  unfold Oper.wp execOp
  simp only [ho, hS.eval h0, hS.eval h1, hS.eval h2, hS.eval h3, hS.eval h4, hS.eval h5, hS.eval h6, hS.eval h7, List.map_toArray, List.map_cons, List.map_nil, Sem.run_bind, hr w hJ, Result.andThen_ok, Sem.run_pure, Oper.upon_value]
  exact ⟨trivial, hJ⟩
end
theorem stepG_newT {G : Type} {md : Region.Mode} {ops : Array Oper} {Q : Exit → Act → World → Prop} {X0 : Array Value} {val : G → Nat → Value} {J : G → (Nat → Bool) → World → Prop} {i : Nat} {o : Oper} (hi : ops[i]? = some o) (hg : o.guard = none) (T : TypeId) (C : Array Value) (ho : o.op = .alloc T)
  (hr : ∀ W, (Instr.alloc T true (.tuple #[])).run Tryz.prog W = .ok (.pointer (some ⟨W.heap.size, 0, none⟩)) (W.alloc (.cells C T)))
  (h : ∀ g d W, J g d W → d i = false → (∀ j oj, ops[j]? = some oj → d j = true → ∀ k, bindsOn md oj k = true → d k = true) → ∃ g', (∀ j, d j = true → val g' j = val g j) ∧ val g' i = .pointer (some ⟨W.heap.size, 0, none⟩) ∧ J g' (fun j => if j = i then true else d j) (W.alloc (.cells C T))) : StepG Tryz.prog md ops Q X0 val J i o := by
 intro g d a W hJ hun _ hcl _
 obtain ⟨g', h1, h2, h3⟩ := h g d W hJ hun hcl
 unfold wpOp
 rw [hi]
 simp only [Region.wanted, hg, if_true]
 refine .inl ?_
 unfold Oper.wp execOp
 simp only [ho, Sem.run_bind, hr, Result.andThen_ok, Sem.run_pure, Oper.upon_value]
 exact ⟨g', h1, by rw [h2], h3⟩
theorem Made.form {w W : World} {v : Value} {l : List N3} (h : Made w W v l) : ∃ ad cap, v = .slice ad l.length cap ∧ W.ownsRow w.heap.size 65 3 (.slice ad l.length cap) l.length (fl l) := by
 unfold Made at h
 rcases own_form h with ⟨e1, e2⟩ | ⟨g, c, e1, _⟩
 · exact ⟨none, 0, by rw [e1, e2], by rw [e1] at h; rw [e2] at h ⊢; exact h⟩
 · exact ⟨_, c, e1, e1 ▸ h⟩
theorem RdN.ofRow {W : World} {base : Nat} {ad : Option Addr} {cap : Nat} {l : List N3} (h : W.ownsRow base 65 3 (.slice ad l.length cap) l.length (fl l)) : RdN W ad l := by
 rcases own_form h with ⟨_, e⟩ | ⟨g, cap', e1, h1, h2, h3⟩
 · exact fun hn => absurd (List.eq_nil_of_length_eq_zero e) hn
 · cases e1
   exact fun _ => ⟨g, 0, rfl, h2, nts_own h rfl⟩
structure OE where
 to : Int
 a : Option Addr
 c : Nat
 L : List Nat
def oc (o : OE) : List Value := [.int .i64 o.to, .slice o.a o.L.length o.c]
def ocs (l : List OE) : List Value := l.flatMap oc
theorem ocs_append (a b : List OE) : ocs (a ++ b) = ocs a ++ ocs b := by simp [ocs]
theorem ocs_len : ∀ l : List OE, (ocs l).length = l.length * 2
 | [] => rfl
 | o :: l => by
  have : ocs (o :: l) = oc o ++ ocs l := by simp [ocs]
  rw [this, List.length_append, ocs_len l, List.length_cons]
  simp [oc]; omega
structure Outs (W : World) (base : Nat) (v : Value) (l : List OE) : Prop where
 row : W.ownsRow base 60 2 v l.length (ocs l)
 dat : ∀ o ∈ l, W.ownsRow base 5 1 (.slice o.a o.L.length o.c) o.L.length (cBW o.L)
 apart : l.Pairwise fun o o' => ∀ k, ob o.a = some k → ob o'.a ≠ some k
theorem Outs.nil (W : World) (base : Nat) : Outs W base (.slice none 0 0) [] := ⟨World.ownsRow_nil _ _ _ _, fun _ h => (by cases h), List.Pairwise.nil⟩
theorem infoO : (Tryz.prog.info? 60).map (fun i => (i.zero, i.size, i.bytes)) = some (some (.agg #[.int .i64 0, .slice none 0 0]), 2, 32) := by kernel_rfl
def Outs.say (l : List OE) : List (Int × List Nat) := l.map fun o => (o.to, o.L)
structure Jq (w : World) (fr ro : Int) (l : List N3) (g : (Option Addr × Nat) × Nat) (d9 d11 d12 : Bool) (V : World) : Prop where
 be : Below w.heap.size w V
 row : d9 = true → V.ownsRow w.heap.size 65 3 (.slice g.1.1 l.length g.1.2) l.length (fl l)
 bx : d11 = true → w.heap.size ≤ g.2 ∧ V.heap[g.2]? = some (.cells (if d12 = true then #[.int .i64 fr, .int .i64 ro, .slice g.1.1 l.length g.1.2] else #[.int .i64 0, .int .i64 0, .slice none 0 0]) 71 (0, 0))
theorem run_allocQ (w : World) : (Instr.alloc 71 true (.tuple #[])).run Tryz.prog w = .ok (.pointer (some ⟨w.heap.size, 0, none⟩)) (w.alloc (.cells #[.int .i64 0, .int .i64 0, .slice none 0 0] 71)) := by go_simp
theorem bld_Q (fr ro : Int) (a : Option Addr) (m c : Nat) (w : World) : (Instr.build 71 #[(0, .int .i64 fr), (1, .int .i64 ro), (2, .slice a m c)]).run Tryz.prog w = .ok (.agg #[.int .i64 fr, .int .i64 ro, .slice a m c]) w := by go_simp
theorem store_Q {W : World} {b : Nat} {C : Array Value} (h : W.heap[b]? = some (.cells C 71 (0, 0))) (hC : ∃ x y z, C = #[x, y, z]) (fr ro : Int) (a : Option Addr) (m c : Nat) : ∃ W', (Instr.storeAt 71 (.pointer (some ⟨b, 0, none⟩)) (.agg #[.int .i64 fr, .int .i64 ro, .slice a m c])).run Tryz.prog W = .ok () W' ∧ W'.heap[b]? = some (.cells #[.int .i64 fr, .int .i64 ro, .slice a m c] 71 (0, 0)) ∧ TpZ b W W' := by
 obtain ⟨x, y, z, rfl⟩ := hC
 have c0 : W.cell? ⟨b, 0, none⟩ = some x := (zca h 0).trans rfl
 have c1 : W.cell? ⟨b, 1, none⟩ = some y := (zca h 1).trans rfl
 have c2 : W.cell? ⟨b, 2, none⟩ = some z := (zca h 2).trans rfl
 have z0 := zta h 0
 have z1 := zta h 1
 have z2 := zta h 2
 refine ⟨((W.setCell ⟨b, 0, none⟩ (.int .i64 fr)).setCell ⟨b, 1, none⟩ (.int .i64 ro)).setCell ⟨b, 2, none⟩ (.slice a m c), by go_simp, ?_, ((TpZ.set _ _ _ _).trans (TpZ.set _ _ _ _)).trans (TpZ.set _ _ _ _)⟩
 have h0 := heap_setCell_same _ _ 0 _ _ (.int .i64 fr) h
 have h1 := heap_setCell_same _ _ 1 _ _ (.int .i64 ro) h0
 exact heap_setCell_same _ _ 2 _ _ (.slice a m c) h1
def askTo (n s : Nat) (L : List Nat) : List (Int × List Nat) := ((List.range n).filter (fun i => i != s)).map fun (i : Nat) => ((i : Int), L)
theorem askTo_succ (k s : Nat) (L : List Nat) : askTo (k + 1) s L = if k = s then askTo k s L else askTo k s L ++ [((k : Int), L)] := by
 unfold askTo
 rw [List.range_succ, List.filter_append]
 by_cases h : k = s
 · subst h; simp
 · rw [if_neg h]; simp [h]
def evAsk (ro : Int) : Ev := ⟨2, 0, 0, ro, 0, 0, 0, 0, 0⟩
def dAskB (s : Ns) : List Nat := fb7 1 (s.n : Int) (s.s : Int) s.t.ro 0 (s.l.filter pNew)
def dAsk (s : Ns) : Ns := { s with ev := s.ev ++ [(evAsk s.t.ro).at (s.s : Int) s.b.r.li] }
end Go.Proofs.YtekjhcnaabpfmaaGreatDoor
namespace Go.Proofs.YtekjhcnaabpfmaaGreatDoor
open Go.RowKit Go.Shelf Go.Lib
attribute [local go_sem] Oper.semAt_some
theorem Outs.snoc {W W' V : World} {base : Nat} {v v' : Value} {l : List OE} {o : OE} (h : Outs W base v l) (hb : Below W.heap.size W W') (hd : W'.ownsRow W.heap.size 5 1 (.slice o.a o.L.length o.c) o.L.length (cBW o.L)) (hbs : base ≤ W.heap.size) (hr : V.ownsRow base 60 2 v' (l.length + 1) (ocs l ++ oc o)) (hg : W'.grownBy V v.ownBlock) : Outs V base v' (l ++ [o]) := by
 have hrow := zrb h.row hb
 have keep : ∀ {a : Option Addr} {L : List Nat} {c b0 : Nat}, W'.ownsRow b0 5 1 (.slice a L.length c) L.length (cBW L) → V.ownsRow b0 5 1 (.slice a L.length c) L.length (cBW L) := fun hq => row_apart2 hq hg (fun k hk e => by
   obtain ⟨_, c1, h1⟩ := rowBlk hrow k hk
   obtain ⟨_, c2, h2⟩ := rowBlk hq k e
   exact nty h1 h2 (by decide) rfl)
 refine ⟨?_, fun p hp => ?_, ?_⟩
 · rw [ocs_append, List.length_append]
   have e : ocs [o] = oc o := by simp [ocs]
   rw [e]
   exact hr
 · rcases List.mem_append.1 hp with hp | hp
   · exact keep (zrb (h.dat p hp) hb)
   · simp only [List.mem_singleton] at hp
     subst hp
     exact keep (row_base hd hbs)
 · rw [List.pairwise_append]
   refine ⟨h.apart, by simp, fun p hp q hq k e1 e2 => ?_⟩
   simp only [List.mem_singleton] at hq
   subst hq
   have h1 := (row_lt2 (h.dat p hp) k (by rw [ob_eq]; exact e1)).2
   have h2 := (row_lt2 hd k (by rw [ob_eq]; exact e2)).1
   omega
theorem Outs.base {W : World} {b b' : Nat} {v : Value} {l : List OE} (h : Outs W b v l) (hb : b' ≤ b) : Outs W b' v l := ⟨row_base h.row hb, fun o ho => row_base (h.dat o ho) hb, h.apart⟩
theorem ask_any {w : World} {base x : Nat} {A : NA} {s : Ns} (h : Nd w base x A s) (hl0 : 0 < s.l.length) (hl1 : s.l.length ≤ 100) (hev : s.ev.length ≤ 1000000) (hn : s.n ≤ 100) :
  Calls Tryz.prog 50 #[.pointer (some ⟨x, 0, none⟩)] w fun r w' => ∃ v l A', r = .returned v ∧ Outs w' w.heap.size v l ∧ Outs.say l = askTo s.n s.s (dAskB s) ∧ Nd w' base x A' (dAsk s) ∧ Mv x A A' w w' := by
 have hmx := mixO
 have c9 := h.obj.c9
 have hro := tround_any h.ta
 obtain ⟨E, hE⟩ : ∃ E, (evAsk s.t.ro).at (s.s : Int) s.b.r.li = E := ⟨_, rfl⟩
 have hrm := remember_any h.obj h.bt h.past h.sz hev (evAsk s.t.ro)
 rw [hE] at hrm
 have e0 : evV (evAsk s.t.ro) = .agg #[.int .i64 2, .int .i64 0, .int .i64 0, .int .i64 s.t.ro, .int .i64 0, .int .i64 0, .int .i64 0, .int .u32 0, .int .u32 0, .int .u32 0, .int .u32 0, .int .u32 0, .int .u32 0, .int .u32 0, .int .u32 0] := by simp [evV, ecA, evAsk, wd_zero]
 rw [e0] at hrm
 have hdA : dAsk s = { s with ev := s.ev ++ [E] } := by unfold dAsk; rw [hE]
 have HA : Hid (dAsk s = { s with ev := s.ev ++ [E] }) := hdA
 obtain ⟨N, hN⟩ : ∃ N, s.l.filter pNew = N := ⟨_, rfl⟩
 have HN : Hid (s.l.filter pNew = N) := hN
 obtain ⟨L, hL⟩ : ∃ L, dAskB s = L := ⟨_, rfl⟩
 have HL : Hid (dAskB s = L) := hL
 rw [hL]
 have hNl : N.length ≤ 100 := by rw [← hN]; exact Nat.le_trans (List.length_filter_le _ _) hl1
 clear e0 hE hdA hN hL
 go_enter Tryz.func50, Tryz.ntmps50
 go_wp2_with (first | (go_at_call 30; (with_reducible refine hro.mono ?_); rintro e u ⟨rfl, hu⟩; obtain rfl := hu.symm) | (go_at_call 27; (with_reducible refine hrm.mono ?_); rintro r u1 ⟨rfl, ad1, cap1, n1, r1, t1⟩; obtain ⟨hN1, hM1⟩ := h.rem n1 r1 t1))
 obtain ⟨A1, hA1⟩ : ∃ A1, { A with pa := ad1, pc := cap1 } = A1 := ⟨_, rfl⟩
 rw [hA1] at hN1 hM1
 obtain ⟨s1, hs1⟩ : ∃ s1, { s with ev := s.ev ++ [E] } = s1 := ⟨_, rfl⟩
 have HS : Hid (dAsk s = s1) := HA.out.trans hs1
 have es : s1.s = s.s ∧ s1.n = s.n ∧ s1.l = s.l := by rw [← hs1]; exact ⟨rfl, rfl, rfl⟩
 rw [hs1] at hN1
 have hob := hN1.obj
 rw [es.1, es.2.1] at hob
 have hbk := hN1.bk
 rw [es.2.2] at hbk
 clear hrm hro c9 n1 r1 t1 hA1 hs1 HA
 rename_i hK
 refine wp_region_any hmx ?_
 refine zwt (G := ((Option Addr × Nat) × Nat)) (fun g i__ => ([(.pointer (some ⟨x, 0, none⟩)), (.pointer (some ⟨x, 0, none⟩)), (.pointer (some ⟨x, 3, none⟩)), (.int .i64 (s.s : Int)), (.int .i64 s.t.ro), (.pointer (some ⟨x, 0, none⟩)), (.pointer (some ⟨x, 0, none⟩)), (.pointer (some ⟨x, 4, none⟩)), (.pointer (some ⟨A1.bp, 0, none⟩)), (.slice g.1.1 N.length g.1.2), (.agg #[.int .i64 (s.s : Int), .int .i64 s.t.ro, .slice g.1.1 N.length g.1.2]), (.pointer (some ⟨g.2, 0, none⟩)), undef] : List Value).getD i__ undef) (fun g d V => Jq u1 (s.s : Int) s.t.ro N g (d 9) (d 11) (d 12) V) (by kernel_rfl) (((none, 0), 0)) (show Jq u1 (s.s : Int) s.t.ro N ((none, 0), 0) false false false _ from ⟨(Below.refl _ _).drew, fun e => (by cases e), fun e => (by cases e)⟩) ?step12 ?fin12
 case step12 =>
  intro i o ho
  have hi : i < 13 := getElem?_lt ho
  match i, hi, ho with
  | 0, _, ho => cases ho; exact zgo fun g d hdep => zmv rfl trivial _ rfl (by kernel_rfl)
  | 1, _, ho => cases ho; exact zgo fun g d hdep => znc rfl trivial _ _ _ rfl rfl rfl
  | 2, _, ho => cases ho; exact zgo fun g d hdep => zfa rfl trivial _ _ _ _ rfl rfl (fun v hw => (zfn v _).2.2.2.1)
  | 3, _, ho => cases ho; exact zgo fun g d hdep => zld rfl trivial _ _ _ rfl rfl (fun v hw => load_in (hob.carry hw.be).c3)
  | 4, _, ho => cases ho; exact zgo fun g d hdep => zmv rfl trivial _ rfl (by kernel_rfl)
  | 5, _, ho => cases ho; exact zgo fun g d hdep => zmv rfl trivial _ rfl (by kernel_rfl)
  | 6, _, ho => cases ho; exact zgo fun g d hdep => znc rfl trivial _ _ _ rfl rfl rfl
  | 7, _, ho => cases ho; exact zgo fun g d hdep => zfa rfl trivial _ _ _ _ rfl rfl (fun v hw => (zfn v _).2.2.2.2.1)
  | 8, _, ho => cases ho; exact zgo fun g d hdep => zld rfl trivial _ _ _ rfl rfl (fun v hw => load_bk0 (hob.carry hw.be).c4)
  | 9, _, ho => cases ho; exact stepG_call rfl (fun _ => trivial) 96 _ _ (fun _ => [.pointer (some ⟨A1.bp, 0, none⟩)]) rfl (fun g => by kernel_rfl) (enters_of Tryz.func96 (by kernel_rfl) rfl) (fun g d V hJ hun hdep hcl => (ride_any (hbk.carry hJ.be) hl0 hl1).mono (by have h12 : d 12 = false := (by cases h : d 12 with | false => rfl | true => exact absurd (hcl 12 _ rfl h 9 (by kernel_rfl)) (by rw [hun]; simp)); have hJ' := hJ; rw [hun, h12] at hJ'; rintro e V' ⟨v, rfl, hm, hb⟩; rw [HN.out] at hm; obtain ⟨a, c, rfl, hrow⟩ := hm.form; refine ⟨((a, c), g.2), rfl, (fun j hj => match j, hj with | 9, hj => (by rw [hj] at hun; cases hun) | 10, hj => absurd ((hcl 10 _ rfl hj 9 (by kernel_rfl))) (by rw [hun]; simp) | 0, _ => rfl | 1, _ => rfl | 2, _ => rfl | 3, _ => rfl | 4, _ => rfl | 5, _ => rfl | 6, _ => rfl | 7, _ => rfl | 8, _ => rfl | 11, _ => rfl | 12, _ => rfl | _ + 13, _ => rfl), ?_⟩; show Jq u1 (s.s : Int) s.t.ro N _ true (d 11) (d 12) V'; rw [h12]; exact ⟨bel2 hJ'.be hb, fun _ => row_base hrow hJ'.be.size, fun e => ⟨(hJ'.bx e).1, (hb.block _ (zla (hJ'.bx e).2)).trans (hJ'.bx e).2⟩⟩))
  | 10, _, ho => cases ho; exact zgo fun g d hdep => step_bld3 rfl trivial _ _ _ _ _ _ _ (.int .i64 (s.s : Int)) (.int .i64 s.t.ro) (.slice g.1.1 N.length g.1.2) rfl rfl rfl rfl (fun v hw => bld_Q _ _ _ _ _ v)
  | 11, _, ho => cases ho; exact stepG_newT rfl rfl _ _ rfl run_allocQ (fun g d V hJ hun hcl => by have h12 : d 12 = false := (by cases h : d 12 with | false => rfl | true => exact absurd (hcl 12 _ rfl h 11 (by kernel_rfl)) (by rw [hun]; simp)); have hJ' := hJ; rw [hun, h12] at hJ'; refine ⟨(g.1, V.heap.size), (fun j hj => match j, hj with | 11, hj => (by rw [hj] at hun; cases hun)  | 0, _ => rfl | 1, _ => rfl | 2, _ => rfl | 3, _ => rfl | 4, _ => rfl | 5, _ => rfl | 6, _ => rfl | 7, _ => rfl | 8, _ => rfl | 9, _ => rfl | 10, _ => rfl | 12, _ => rfl | _ + 13, _ => rfl), rfl, ?_⟩; show Jq u1 (s.s : Int) s.t.ro N _ (d 9) true (d 12) _; rw [h12]; exact ⟨hJ'.be.alloc hJ'.be.size _, fun e => zrb (hJ'.row e) (al1' _ _), fun _ => ⟨hJ'.be.size, zna rfl⟩⟩)
  | 12, _, ho => cases ho; exact stepG_store rfl rfl rfl _ _ _ (fun g => .pointer (some ⟨g.2, 0, none⟩)) (fun g => .agg #[.int .i64 (s.s : Int), .int .i64 s.t.ro, .slice g.1.1 N.length g.1.2]) rfl (fun g => by kernel_rfl) (fun g => by kernel_rfl) (fun g d V hJ hun hdep => by have h9 : d 9 = true := hdep 9 (by kernel_rfl); have h11 : d 11 = true := hdep 11 (by kernel_rfl); have hJ' := hJ; rw [h9, h11, hun] at hJ'; obtain ⟨hb0, hb1⟩ := hJ'.bx rfl; obtain ⟨V', hr, h1, h2⟩ := store_Q hb1 ⟨_, _, _, rfl⟩ (s.s : Int) s.t.ro g.1.1 N.length g.1.2; refine ⟨V', hr, ?_⟩; show Jq u1 (s.s : Int) s.t.ro N _ (d 9) (d 11) true V'; rw [h9, h11]; exact ⟨TpZ.young hJ'.be h2 hb0, fun e => row_moved (hJ'.row e) (fun k hk => h2.block k (row_lt2 (hJ'.row e) k hk).2 (fun e2 => row_type (hJ'.row e) hb1 (by decide) (e2 ▸ hk))), fun _ => ⟨hb0, h1⟩⟩)
 intro g d W hall hW
 first | refine hK _ _ ?_ | refine (‹∀ (a : Act) (w : World), Code.wp Tryz.prog _ _ a w → _›) _ _ ?_ | skip
 simp only [finL, List.getD_cons_zero, List.getD_cons_succ, Nat.zero_add, Nat.reduceAdd, List.setIfInBounds_toArray, List.set_cons_zero, List.set_cons_succ]
 rw [hall 9 (by decide), hall 11 (by decide), hall 12 (by decide)] at hW
 obtain ⟨⟨ra, rc⟩, qb⟩ := g
 obtain ⟨hq0, hq1⟩ := hW.bx rfl
 have hrow := hW.row rfl
 have hbW := hW.be
 clear hK hall hW
 simp only at hq0 hq1 hrow ⊢
 have HQ : Hid (W.heap[qb]? = some (.cells #[.int .i64 (s.s : Int), .int .i64 s.t.ro, .slice ra N.length rc] 71 (0, 0))) := hq1
 have hqlt := zla hq1
 clear hq1
 have cn := (hob.carry hbW).c1
 go_wp2
 obtain ⟨ic, hic, hz0, hz1, hz2⟩ := info_parts infoO
 go_loopw [5, 31] (fun v c wz => ∃ (k : Nat) (l : List OE), c = .int .i64 k ∧ k ≤ s.n ∧ l.length ≤ k ∧ Outs wz W.heap.size v l ∧ Hid (Outs.say l = askTo k s.s L) ∧ Below W.heap.size W wz) (fun _ c _ => s.n - vnat c)
 case atStart => exact ⟨0, [], rfl, Nat.zero_le _, Nat.zero_le _, Outs.nil _ _, rfl, Below.refl _ _⟩
 case round =>
  obtain ⟨k, l, rfl, hk, hll, ho, HO, hb⟩ := hrel
  by_cases hkn : k < s.n
  · have hki : (k : Int) < (s.n : Int) := by omega
    have hobr := hob.carry (bel2 hbW hb)
    have c3 := hobr.c3
    by_cases hks : k = s.s
    · have hke : ((k : Int) != (s.s : Int)) = false := by rw [hks]; simp
      have HO2 : Hid (Outs.say l = askTo (k + 1) s.s L) := by show _ = _; rw [askTo_succ, if_pos hks]; exact HO.out
      clear hks
      go_wp2
      go_roundw
      case rel => exact ⟨k + 1, l, by simp, by omega, by omega, ho, HO2, hb⟩
      case measure => simp [vnat]; omega
    · have hke : ((k : Int) != (s.s : Int)) = true := by simp; omega
      have hqr := (hb.block _ hqlt).trans HQ.out
      have d0 : wr.cell? ⟨qb, 0, none⟩ = some (.int .i64 (s.s : Int)) := (zca hqr 0).trans rfl
      have d1 : wr.cell? ⟨qb, 1, none⟩ = some (.int .i64 s.t.ro) := (zca hqr 1).trans rfl
      have d2 : wr.cell? ⟨qb, 2, none⟩ = some (.slice ra N.length rc) := (zca hqr 2).trans rfl
      have hsd := sendQ hobr (k : Int) (s.s : Int) s.t.ro ra rc N (RdN.ofRow (zrb hrow hb)) (by omega)
      have e7 : fb7 1 (s.n : Int) (s.s : Int) s.t.ro 0 N = L := by rw [← HL.out, dAskB, HN.out]
      rw [e7] at hsd
      have HK : Hid (¬ k = s.s) := hks
      clear hks e7 hqr
      go_wp2_with (first | (go_at_call 97; (with_reducible refine hsd.mono ?_); rintro r u2 ⟨a2, c2, rfl, hd2, hb2⟩) | (at_builtin; refine wpList_append_own_at _ rfl _ _ 50 rfl W.heap.size 60 ic _ 2 32 Tryz.underlying50 hic hz0 hz1 hz2 rfl (by decide) _ l.length (ocs l) rfl (zrb (zrb ho.row hb2) (al1' _ _)) ⟨u2.heap.size, 0, none⟩ 1 1 [_, _] rfl rfl (rowN _ #[_, _] _) (by simp [Value.oneCell']) (by unfold maxLen; omega) (by omega) (by have := hb.size; have := hb2.size; simp; omega) ?_; intro v' w2 hown' hgrow _ hob2))
      have hOO : Outs w2 W.heap.size v' (l ++ [⟨(k : Int), a2, c2, L⟩]) := ho.snoc (o := ⟨(k : Int), a2, c2, L⟩) (bel2 hb2 (al1' _ _)) (zrb hd2 (al1' _ _)) hb.size hown' hgrow
      have HO2 : Hid (Outs.say (l ++ [⟨(k : Int), a2, c2, L⟩]) = askTo (k + 1) s.s L) := by show _ = _; rw [askTo_succ, if_neg HK.out, ← HO.out]; simp [Outs.say]
      have hb3 : Below W.heap.size W w2 := (hb.trans ((bel2 hb2 (al1' _ _)).mono hb.size)).grown hgrow (by have := hb.size; have := hb2.size; simp; omega) (fun q e => own_block ho.row q e)
      clear hsd
      go_roundw
      case rel => exact ⟨k + 1, _, by simp, by omega, by simp; omega, hOO, HO2, hb3⟩
      case measure => simp [vnat]; omega
  · have hki : ¬ (k : Int) < (s.n : Int) := by omega
    obtain rfl : k = s.n := by omega
    go_wp2
    go_ret
    refine ⟨_, rfl, l, ho.base (Nat.le_trans hM1.size hbW.size), HO.out, A1, ?_, hM1.trans (Mv.of _ _ (bel2 hbW hb))⟩
    rw [HS.out]
    exact hN1.carry (bel2 hbW hb)
end Go.Proofs.YtekjhcnaabpfmaaGreatDoor
namespace Go.Proofs.YtekjhcnaabpfmaaGreatDoor
open Go.RowKit Go.Shelf
def SsAt (W : World) (b off : Nat) (l : List Nat) : Prop := ∀ (k x : Nat), l[k]? = some x → W.cell? ⟨b, off + k * 4, none⟩ = some (.int .u32 (wd x 0 : Nat)) ∧ W.cell? ⟨b, off + k * 4 + 1, none⟩ = some (.int .u32 (wd x 1 : Nat)) ∧ W.cell? ⟨b, off + k * 4 + 2, none⟩ = some (.int .u32 (wd x 2 : Nat)) ∧ W.cell? ⟨b, off + k * 4 + 3, none⟩ = some (.int .u32 (wd x 3 : Nat))
def RdS (W : World) (ad : Option Addr) (l : List Nat) : Prop := l ≠ [] → ∃ b off, ad = some ⟨b, off, none⟩ ∧ b < W.heap.size ∧ SsAt W b off l
theorem SsAt.carry {W W' : World} {b off : Nat} {l : List Nat} (h : SsAt W b off l) (e : W'.heap[b]? = W.heap[b]?) : SsAt W' b off l := fun k x hk => by
 obtain ⟨c0, c1, c2, c3⟩ := h k x hk
 exact ⟨(World.cell?_of_block (a := ⟨b, _, none⟩) e).trans c0, (World.cell?_of_block (a := ⟨b, _, none⟩) e).trans c1, (World.cell?_of_block (a := ⟨b, _, none⟩) e).trans c2, (World.cell?_of_block (a := ⟨b, _, none⟩) e).trans c3⟩
theorem RdS.carry {W W' : World} {ad : Option Addr} {l : List Nat} (h : RdS W ad l) (hb : Below W.heap.size W W') : RdS W' ad l := fun hl => by
 obtain ⟨b, off, e, h1, h2⟩ := h hl
 exact ⟨b, off, e, Nat.lt_of_lt_of_le h1 hb.size, h2.carry (hb.block _ h1)⟩
theorem RdS.own {W : World} {base c : Nat} {ad : Option Addr} {l : List Nat} (h : W.ownsRow base 35 4 (.slice ad l.length c) l.length (fs l)) : RdS W ad l := fun hl => by
 rcases own_form h with ⟨_, e2⟩ | ⟨g, cap, e1, _, h3, _⟩
 · exact absurd (List.length_eq_zero_iff.1 e2) hl
 · simp only [Value.slice.injEq] at e1
   obtain ⟨rfl, _, rfl⟩ := e1
   refine ⟨g, 0, rfl, h3, fun k x hk => ?_⟩
   have hlt : k < l.length := (List.getElem?_eq_some_iff.1 hk).1
   obtain ⟨c0, c1, c2, c3⟩ := fs_get l k x hk
   rw [Nat.zero_add]
   exact ⟨(h.cellAt _ (by omega)).trans c0, (h.cellAt _ (by omega)).trans c1, (h.cellAt _ (by omega)).trans c2, (h.cellAt _ (by omega)).trans c3⟩
theorem idx_s (g off n cap k : Nat) (h : k < n) (w : World) : (Instr.indexAt 141 (.slice (some ⟨g, off, none⟩) n cap) (.int .i64 (k : Int))).run Tryz.prog w = .ok (.pointer (some ⟨g, off + k * 4, none⟩)) w := by
 have h1 : (k : Int) < (n : Int) := by omega
 go_simp
end Go.Proofs.YtekjhcnaabpfmaaGreatDoor
