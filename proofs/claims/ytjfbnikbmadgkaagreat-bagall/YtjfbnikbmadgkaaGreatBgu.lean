/- The document's Send: what it answers. -/
import Derived.Test.YtjfbnikbmadgkaaGreatBgt
namespace Go.Proofs.YtjfbnikbmadgkaaGreat
open Go.RowKit Go.Shelf

theorem stepG_ofC {G : Type} {P : Program} {md : Region.Mode} {ops : Array Oper} {Q : Exit → Act → World → Prop} {X0 : Array Value} {val : G → Nat → Value} {J : G → (Nat → Bool) → World → Prop} {i : Nat} {o : Oper}
    (h : ∀ g d, d i = false → (∀ j oj, ops[j]? = some oj → d j = true → ∀ k, bindsOn md oj k = true → d k = true) → StepAt P md ops Q X0 (val g) (J g d) (J g (fun j => if j = i then true else d j)) i o) : StepG P md ops Q X0 val J i o := by
  intro g d a w hJ hun _ hcl hS
  exact wpOp_mono (fun a' w' hq => ⟨g, fun _ _ => rfl, hq.1, hq.2⟩) (h g d hun hcl a w hJ hS)
theorem stepG_buildG {G : Type} {P : Program} {md : Region.Mode} {ops : Array Oper} {Q : Exit → Act → World → Prop} {X0 : Array Value} {val : G → Nat → Value} {J : G → (Nat → Bool) → World → Prop} {i : Nat} {o : Oper}
    (hi : ops[i]? = some o) (hg : o.guard = none) (t : TypeId) (x : Operand) (vx : G → Value) (ho : o.op = .buildSlice t 1 #[(0, x)]) (hx : ∀ g, rdo md ops X0 (val g) i o x = some (vx g))
    (h : ∀ g d w, J g d w → d i = false → (∀ j, bindsOn md o j = true → d j = true) → (∀ j oj, ops[j]? = some oj → d j = true → ∀ k, bindsOn md oj k = true → d k = true) → ∃ g' w', (Instr.buildSlice t 1 #[(0, vx g)]).run P w = .ok (val g' i) w' ∧ (∀ j, d j = true → val g' j = val g j) ∧ J g' (fun j => if j = i then true else d j) w') : StepG P md ops Q X0 val J i o := by
  intro g d a w hJ hun hdep hcl hS
  have hS' : Seen md ops X0 (val g) i o a := hS
  obtain ⟨g', w', h1, h2, h3⟩ := h g d w hJ hun hdep hcl
  unfold wpOp
  rw [hi]
  simp only [Region.wanted, hg, if_true]
  refine .inl ?_
  unfold Oper.wp execOp
  simp only [ho, List.map_toArray, List.map_cons, List.map_nil, hS'.eval (hx g), Sem.run_bind, h1, Result.andThen_ok, Sem.run_pure, Oper.upon_value]
  exact ⟨g', h2, rfl, h3⟩
/-- What is found out while a datagram is sent: the copy's address, the block of one, the row. -/
abbrev GS := Option Addr × Nat × Nat × Option Addr × Nat
/-- What holds while a datagram is sent. -/
def JS (w : World) (base lb o : Nat) (ad : Option Addr) (cap : Nat) (last most : Int) (l : List Gr) (av : List (Option Addr × Nat)) (x : Gr) (g : GS) (d13 d14 d15 d18 : Bool) (W : World) : Prop :=
  match d13, d14, d15, d18 with
  | false, _, _, _ => Rg W base lb o ad cap last most l av ∧ Below w.heap.size w W
  | true, false, _, _ => Rg W base lb o ad cap last most l av ∧ Below w.heap.size w W ∧ W.ownsRow w.heap.size 5 1 (.slice g.1 x.2.2.2.length g.2.1) x.2.2.2.length (cB x.2.2.2)
  | true, true, false, _ => Rg W base lb o ad cap last most l av ∧ Below w.heap.size w W ∧ W.ownsRow w.heap.size 5 1 (.slice g.1 x.2.2.2.length g.2.1) x.2.2.2.length (cB x.2.2.2) ∧ GB W g.2.2.1 x.1 x.2.1 x.2.2.1 (.slice g.1 x.2.2.2.length g.2.1)
  | true, true, true, false => ∃ U, Rg U base lb o ad cap last most l av ∧ Below w.heap.size w U ∧ U.ownsRow w.heap.size 5 1 (.slice g.1 x.2.2.2.length g.2.1) x.2.2.2.length (cB x.2.2.2) ∧ U.grownBy W (ob ad) ∧ (ob g.2.2.2.1 = ob ad ∨ ob g.2.2.2.1 = some U.heap.size) ∧ W.ownsRow base 62 4 (.slice g.2.2.2.1 (l.length + 1) g.2.2.2.2) (l.length + 1) (flG (l ++ [x]) (av ++ [(g.1, g.2.1)]))
  | true, true, true, true => Rg W base lb o g.2.2.2.1 g.2.2.2.2 last most (l ++ [x]) (av ++ [(g.1, g.2.1)]) ∧ Tr lb o (ob ad) (ob g.2.2.2.1) w W ∧ ∀ b : Addr, g.1 = some b → w.heap.size ≤ b.block
section
variable {w : World} {base lb o : Nat} {ad : Option Addr} {cap : Nat} {last most : Int} {l : List Gr} {av : List (Option Addr × Nat)} {x : Gr} {g : GS} {d13 d14 d15 d18 : Bool} {W : World}
theorem JS.cA (h : JS w base lb o ad cap last most l av x g d13 d14 d15 d18 W) : W.cell? ⟨lb, o + 1, none⟩ = some (.int .i64 last) := by
  match d13, d14, d15, d18, h with
  | false, _, _, _, h => exact h.1.cA
  | true, false, _, _, h => exact h.1.cA
  | true, true, false, _, h => exact h.1.cA
  | true, true, true, false, ⟨U, h, _, _, hg, _, _⟩ => exact (World.cell?_of_block (a := ⟨lb, o + 1, none⟩) (hg.block lb h.lt (fun e => h.ne e.symm))).trans h.cA
  | true, true, true, true, h => exact h.1.cA
theorem JS.cL (h : JS w base lb o ad cap last most l av x g d13 d14 d15 d18 W) (h18 : d18 = false) : W.cell? ⟨lb, o, none⟩ = some (.slice ad l.length cap) := by
  subst h18
  match d13, d14, d15, h with
  | false, _, _, h => exact h.1.cL
  | true, false, _, h => exact h.1.cL
  | true, true, false, h => exact h.1.cL
  | true, true, true, ⟨U, h, _, _, hg, _, _⟩ => exact (World.cell?_of_block (a := ⟨lb, o, none⟩) (hg.block lb h.lt (fun e => h.ne e.symm))).trans h.cL
theorem load_gs {V : World} {B j : Nat} {a : Option Addr} {n c : Nat} (h : V.cell? ⟨B, j, none⟩ = some (.slice a n c)) : (Instr.loadAt 43 (.pointer (some ⟨B, j, none⟩))).run Tryz.prog V = .ok (.slice a n c) V := by go_simp
theorem store_gs {V : World} {B j : Nat} {v : Value} {a : Option Addr} {n c : Nat} (h : V.cell? ⟨B, j, none⟩ = some v) (z : V.frozen? ⟨B, j, none⟩ = false) : (Instr.storeAt 43 (.pointer (some ⟨B, j, none⟩)) (.slice a n c)).run Tryz.prog V = .ok () (V.setCell ⟨B, j, none⟩ (.slice a n c)) := by go_simp
theorem bi_lenG (t : TypeId) (bs : Array Bool) (a : Option Addr) (n c : Nat) (w : World) : (builtin .len #[43] t bs #[.slice a n c]).run Tryz.prog w = .ok (.value (.int .i64 (n : Int))) w := by
  show ((do pure (.value (← Builtin.len_ #[43] t #[.slice a n c]))) : Sem Next).run Tryz.prog w = _
  go_simp
theorem ext_dat {l : List Gr} {av : List (Option Addr × Nat)} {x : Gr} {a : Option Addr × Nat} (hlen : av.length = l.length) {P : Gr → Option Addr × Nat → Prop} (h : ∀ (k : Nat) (x : Gr) (a : Option Addr × Nat), l[k]? = some x → av[k]? = some a → P x a) (hx : P x a) : ∀ (k : Nat) (x' : Gr) (a' : Option Addr × Nat), (l ++ [x])[k]? = some x' → (av ++ [a])[k]? = some a' → P x' a' := by
  intro k x' a' h1 h2
  by_cases hk : k < l.length
  · rw [List.getElem?_append_left hk] at h1
    rw [List.getElem?_append_left (by omega)] at h2
    exact h k x' a' h1 h2
  · have hkk : k = l.length := by have := (List.getElem?_eq_some_iff.1 h1).1; simp at this; omega
    subst hkk
    rw [List.getElem?_append_right (Nat.le_refl _), Nat.sub_self] at h1
    rw [List.getElem?_append_right (by omega), hlen, Nat.sub_self] at h2
    cases h1
    cases h2
    exact hx
theorem none_cap {W : World} {base : Nat} {e : TypeId} {n : Nat} {a : Option Addr} {c : Nat} {xs : List Value} (h : W.ownsRow base e 1 (.slice a n c) n xs) : a = none → c = 0 := by
  intro e
  subst e
  rcases own_form h with ⟨e1, _⟩ | ⟨g, cap, e1, _⟩
  · simp only [Value.slice.injEq] at e1
    exact e1.2.2
  · cases e1
set_option maxHeartbeats 4000000 in
set_option maxRecDepth 100000 in
theorem rSend_any (h : Rg w base lb o ad cap last most l av) (f t : Int) (adD : Option Addr) (capD : Nat) (d0 : List Nat) (hd : RdB w adD d0) (hdc : adD = none → capD = 0) (hne : d0 ≠ [] → ∀ a, adD = some a → a.block ≠ lb) (hby : Byt d0) (h0 : 0 ≤ last) (h1 : last < 4611686018427387904) (hbs : base ≤ w.heap.size) : Calls Tryz.prog 14 #[.pointer (some ⟨lb, o, none⟩), .int .i64 f, .int .i64 t, .slice adD d0.length capD] w fun e w' => e = .returned (.tuple #[.int .i64 (sSend most last l f t d0).1, .int .i64 (sSend most last l f t d0).2.1]) ∧ ∃ ad' cap' av', Rg w' base lb o ad' cap' (sSend most last l f t d0).2.2.1 most (sSend most last l f t d0).2.2.2 av' ∧ Tr lb o (ob ad) (ob ad') w w' ∧ ∀ (k : Nat) (a : Option Addr × Nat), av'[k]? = some a → (av[k]? = some a ∧ (sSend most last l f t d0).2.2.2[k]? = l[k]?) ∨ ∀ b : Addr, a.1 = some b → w.heap.size ≤ b.block := by
  have hmx : Tryz.prog.follows .mixedOrders = true := by kernel_rfl
  obtain ⟨ic, hic, hz0, hz1, hz2⟩ := info_parts infoG
  have hlt := h.lt
  have hle := h.le
  have hmo := h.most1
  unfold sSend sAdd
  by_cases hl : 1024 < d0.length
  · rw [if_pos hl]
    have hli : (d0.length : Int) > 1024 := by omega
    go_enter Tryz.func14, Tryz.ntmps14
    go_wp2
    go_ret2
    exact ⟨rfl, ad, cap, av, h, Tr.of _ _ (Below.refl _ _) hlt, fun _ _ q => .inl ⟨q, by first | rfl | trivial⟩⟩
  rw [if_neg hl]
  have hli : ¬ ((d0.length : Int) > 1024) := by omega
  by_cases hf : (l.length : Int) = most
  · rw [if_pos hf]
    go_enter Tryz.func14, Tryz.ntmps14
    have HF : Hid ((l.length : Int) = most) := hf
    clear hf
    go_wp2
    refine wp_region_any hmx ?_
    refine wpAny_pure (fun i__ => ([(.pointer (some ⟨lb, o, none⟩)), (.pointer (some ⟨lb, o, none⟩)), (.pointer (some ⟨lb, o, none⟩)), (.slice ad l.length cap), (.int .i64 (l.length : Int)), (.pointer (some ⟨lb, o, none⟩)), (.pointer (some ⟨lb, o, none⟩)), (.pointer (some ⟨lb, o + 2, none⟩)), (.int .i64 most), (.bool true)] : List Value).getD i__ undef) (fun V => Rg V base lb o ad cap last most l av ∧ Below w.heap.size w V) (by kernel_rfl) ⟨h.carry (Below.refl _ _).drew, (Below.refl _ _).drew⟩ ?_ ?_
    · refine (stepsFrom_cons ?_ (stepsFrom_cons ?_ (stepsFrom_cons ?_ (stepsFrom_cons ?_ (stepsFrom_cons ?_ (stepsFrom_cons ?_ (stepsFrom_cons ?_ (stepsFrom_cons ?_ (stepsFrom_cons ?_ (stepsFrom_cons ?_ trivial))))))))))
      · exact step_move rfl trivial _ rfl (by kernel_rfl)
      · exact step_nilCheck rfl trivial _ _ _ rfl rfl rfl
      · exact step_fieldAddr rfl trivial _ _ _ _ rfl rfl (fun v hw => field_r v _ _ 0 (by decide))
      · exact step_load rfl trivial _ _ _ rfl rfl (fun v hw => load_gs hw.1.cL)
      · exact step_bi rfl trivial _ _ _ [(.slice ad l.length cap)] rfl (by kernel_rfl) (fun cs v hw => bi_lenG _ cs _ _ cap v)
      · exact step_move rfl trivial _ rfl (by kernel_rfl)
      · exact step_nilCheck rfl trivial _ _ _ rfl rfl rfl
      · exact step_fieldAddr rfl trivial _ _ _ _ rfl rfl (fun v hw => field_r v _ _ 2 (by decide))
      · exact step_load rfl trivial _ _ _ rfl rfl (fun v hw => load_i hw.1.cM)
      · exact step_binOp rfl trivial _ _ _ _ _ _ _ rfl rfl rfl (fun v hw => (bin_geq .i64 _ _).trans (by rw [decide_eq_true (show (l.length : Int) ≥ most by have := HF.out; omega)]; rfl))
    intro W hW
    first | refine hK _ _ ?_ | refine (‹∀ (a : Act) (w : World), Code.wp Tryz.prog _ _ a w → _›) _ _ ?_ | skip
    simp only [finL, List.getD_cons_zero, List.getD_cons_succ, Nat.zero_add, Nat.reduceAdd, List.setIfInBounds_toArray, List.set_cons_zero, List.set_cons_succ]
    obtain ⟨hR, hB⟩ := hW
    go_wp2
    go_ret2
    exact ⟨rfl, ad, cap, av, hR, Tr.of _ _ hB hlt, fun _ _ q => .inl ⟨q, by first | rfl | trivial⟩⟩
  rw [if_neg hf]
  dsimp only
  have HF : Hid ((l.length : Int) + 1 ≤ most) := by show _ ≤ _; omega
  clear hf
  go_enter Tryz.func14, Tryz.ntmps14
  go_wp2
  refine wp_region_any hmx ?_
  refine wpAny_pure (fun i__ => ([(.pointer (some ⟨lb, o, none⟩)), (.pointer (some ⟨lb, o, none⟩)), (.pointer (some ⟨lb, o, none⟩)), (.slice ad l.length cap), (.int .i64 (l.length : Int)), (.pointer (some ⟨lb, o, none⟩)), (.pointer (some ⟨lb, o, none⟩)), (.pointer (some ⟨lb, o + 2, none⟩)), (.int .i64 most), (.bool false)] : List Value).getD i__ undef) (fun V => Rg V base lb o ad cap last most l av ∧ Below w.heap.size w V) (by kernel_rfl) ⟨h.carry (Below.refl _ _).drew, (Below.refl _ _).drew⟩ ?_ ?_
  · refine (stepsFrom_cons ?_ (stepsFrom_cons ?_ (stepsFrom_cons ?_ (stepsFrom_cons ?_ (stepsFrom_cons ?_ (stepsFrom_cons ?_ (stepsFrom_cons ?_ (stepsFrom_cons ?_ (stepsFrom_cons ?_ (stepsFrom_cons ?_ trivial))))))))))
    · exact step_move rfl trivial _ rfl (by kernel_rfl)
    · exact step_nilCheck rfl trivial _ _ _ rfl rfl rfl
    · exact step_fieldAddr rfl trivial _ _ _ _ rfl rfl (fun v hw => field_r v _ _ 0 (by decide))
    · exact step_load rfl trivial _ _ _ rfl rfl (fun v hw => load_gs hw.1.cL)
    · exact step_bi rfl trivial _ _ _ [(.slice ad l.length cap)] rfl (by kernel_rfl) (fun cs v hw => bi_lenG _ cs _ _ cap v)
    · exact step_move rfl trivial _ rfl (by kernel_rfl)
    · exact step_nilCheck rfl trivial _ _ _ rfl rfl rfl
    · exact step_fieldAddr rfl trivial _ _ _ _ rfl rfl (fun v hw => field_r v _ _ 2 (by decide))
    · exact step_load rfl trivial _ _ _ rfl rfl (fun v hw => load_i hw.1.cM)
    · exact step_binOp rfl trivial _ _ _ _ _ _ _ rfl rfl rfl (fun v hw => (bin_geq .i64 _ _).trans (by rw [decide_eq_false (show ¬ ((l.length : Int) ≥ most) by have := HF.out; omega)]; rfl))
  intro W hW
  first | refine hK _ _ ?_ | refine (‹∀ (a : Act) (w : World), Code.wp Tryz.prog _ _ a w → _›) _ _ ?_ | skip
  simp only [finL, List.getD_cons_zero, List.getD_cons_succ, Nat.zero_add, Nat.reduceAdd, List.setIfInBounds_toArray, List.set_cons_zero, List.set_cons_succ]
  obtain ⟨hR, hB⟩ := hW
  obtain ⟨u1, hu1⟩ : ∃ u1, W = u1 := ⟨_, rfl⟩
  rw [hu1] at hR hB ⊢
  clear hu1
  have cA := hR.cA
  have zA := hR.thaw (o + 1)
  obtain ⟨hR2, hT2⟩ := hR.count (last + 1)
  obtain ⟨w2, hw2⟩ : ∃ w2, u1.setCell ⟨lb, o + 1, none⟩ (.int .i64 (last + 1)) = w2 := ⟨_, rfl⟩
  rw [hw2] at hR2 hT2
  have hd2 : RdB w2 adD d0 := fun hn => by
    obtain ⟨b, off, e1, e2, e3⟩ := hd.carry hB hn
    rw [← hw2]
    exact ⟨b, off, e1, by simpa using e2, e3.carry (Below.heap_setCell _ _ _ _ (hne hn _ e1))⟩
  have hT0 : Tr lb o (ob ad) (ob ad) w w2 := (Tr.of o (ob ad) hB hlt).trans hT2
  have hbs2 : base ≤ w2.heap.size := Nat.le_trans hbs hT0.size
  have hhl : d0.length ≤ 1024 := by omega
  have hl1 : l.length ≤ 65535 := by have := HF.out; omega
  have cpy : ∀ {d : Nat → Bool} (g : GS) (V : World), JS w2 base lb o ad cap (last + 1) most l av (last + 1, f, t, d0) g (d 13) (d 14) (d 15) (d 18) V → d 13 = false → d 14 = false → Calls Tryz.prog 82 #[.agg #[.int .i64 (last + 1), .int .i64 f, .int .i64 t, .slice adD d0.length capD]] V fun e w' => ∃ g' : GS, e = .returned (.agg #[.int .i64 (last + 1), .int .i64 f, .int .i64 t, .slice g'.1 d0.length g'.2.1]) ∧ JS w2 base lb o ad cap (last + 1) most l av (last + 1, f, t, d0) g' true (d 14) (d 15) (d 18) w' := by
    intro d g V hJ h13 h14
    rw [h13] at hJ
    obtain ⟨k1, k2⟩ := hJ
    refine (copied_any (last + 1, f, t, d0) adD capD V (hd2.carry k2) (by show d0.length ≤ _; omega) hdc).mono ?_
    rintro e w' ⟨a', c', rfl, ho, hb'⟩
    rw [h14]
    exact ⟨(a', c', 0, none, 0), rfl, k1.carry hb', bel2 k2 hb', row_base ho k2.size⟩
  have bld : ∀ {d : Nat → Bool} (g : GS) (V : World), JS w2 base lb o ad cap (last + 1) most l av (last + 1, f, t, d0) g (d 13) (d 14) (d 15) (d 18) V → d 13 = true → d 14 = false → d 15 = false → JS w2 base lb o ad cap (last + 1) most l av (last + 1, f, t, d0) (g.1, g.2.1, V.heap.size, g.2.2.2) (d 13) true (d 15) (d 18) (V.alloc (.cells #[.int .i64 (last + 1), .int .i64 f, .int .i64 t, .slice g.1 d0.length g.2.1] 62)) := by
    intro d g V hJ h13 h14 h15
    rw [h13, h14] at hJ
    obtain ⟨k1, k2, k3⟩ := hJ
    have ha := al1' V (.cells #[.int .i64 (last + 1), .int .i64 f, .int .i64 t, .slice g.1 d0.length g.2.1] 62)
    rw [h13, h15]
    exact ⟨k1.carry ha, bel2 k2 ha, row_below k3 ha, new_at rfl⟩
  have app : ∀ {d : Nat → Bool} (g : GS) (V : World), JS w2 base lb o ad cap (last + 1) most l av (last + 1, f, t, d0) g (d 13) (d 14) (d 15) (d 18) V → d 13 = true → d 14 = true → d 15 = false → d 18 = false → ∃ (g' : GS) (w' : World), (Builtin.append_ #[43, 43] 43 #[.slice ad l.length cap, .slice (some ⟨g.2.2.1, 0, none⟩) 1 1]).run Tryz.prog V = .ok (.slice g'.2.2.2.1 (l.length + 1) g'.2.2.2.2) w' ∧ g' = (g.1, g.2.1, g.2.2.1, g'.2.2.2) ∧ JS w2 base lb o ad cap (last + 1) most l av (last + 1, f, t, d0) g' (d 13) (d 14) true (d 18) w' := by
    intro d g V hJ h13 h14 h15 h18
    rw [h13, h14, h15] at hJ
    obtain ⟨k1, k2, k3, k4⟩ := hJ
    obtain ⟨v', w', hr, h2, h3, _, h5⟩ := run_append_own_at (P := Tryz.prog) V base 43 43 62 ic _ 4 48 Tryz.underlying43 hic hz0 hz1 hz2 rfl (by decide) (.slice ad l.length cap) l.length (flG l av) k1.row ⟨g.2.2.1, 0, none⟩ 1 1 [.int .i64 (last + 1), .int .i64 f, .int .i64 t, .slice g.1 d0.length g.2.1] rfl (gram_src k4) (by simp [Value.oneCell']) (by unfold maxLen; omega) (by omega) (by have := k2.size; omega)
    obtain ⟨ad', cap', rfl⟩ := row_form h2
    rw [ob_eq] at h3
    rw [ob_eq, ob_eq] at h5
    rw [h13, h14, h18]
    refine ⟨(g.1, g.2.1, g.2.2.1, ad', cap'), w', hr, rfl, V, k1, k2, k3, h3, h5, ?_⟩
    rw [flG_app _ _ _ _ k1.len]
    exact h2
  have sto : ∀ {d : Nat → Bool} (g : GS) (V : World), JS w2 base lb o ad cap (last + 1) most l av (last + 1, f, t, d0) g (d 13) (d 14) (d 15) (d 18) V → d 13 = true → d 14 = true → d 15 = true → d 18 = false → ∃ w', (Instr.storeAt 43 (.pointer (some ⟨lb, o, none⟩)) (.slice g.2.2.2.1 (l.length + 1) g.2.2.2.2)).run Tryz.prog V = .ok () w' ∧ JS w2 base lb o ad cap (last + 1) most l av (last + 1, f, t, d0) g (d 13) (d 14) (d 15) true w' := by
    intro d g V hJ h13 h14 h15 h18
    have hcL := JS.cL hJ h18
    rw [h13, h14, h15, h18] at hJ
    obtain ⟨U, k1, k2, k3, k4, k5, k6⟩ := hJ
    obtain ⟨cur, hcur⟩ := k1.blk
    have hz := thaw_at ((k4.block lb k1.lt (fun e => k1.ne e.symm)).trans hcur) o
    have hlen : (l ++ [(last + 1, f, t, d0)]).length = l.length + 1 := by simp
    have ht := k1.turn (u := V) (ad' := g.2.2.2.1) (cap' := g.2.2.2.2) (l' := l ++ [(last + 1, f, t, d0)]) (av' := av ++ [(g.1, g.2.1)]) k4 k5 (by rw [hlen]; exact k6) (by simp [k1.len]) (ext_dat k1.len k1.dat ⟨RdY.own k3, none_cap k3⟩) (fun z hz => by
      rcases List.mem_append.1 hz with q | q
      · exact k1.few z q
      · simp at q
        rw [q]
        exact ⟨hhl, hby⟩) (by rw [hlen]; have := HF.out; omega)
    rw [hlen] at ht
    rw [h13, h14, h15]
    exact ⟨_, store_gs hcL hz, ht.1, (Tr.of o (ob ad) k2 hR2.lt).trans ht.2, fun b e => own_block k3 b.block (by rw [ob_eq, e]; rfl)⟩
  go_wp2
  try rw [hw2]
  refine wp_region_any hmx ?_
  refine wpAny_tabG (G := (GS)) (fun g i__ => ([(.pointer (some ⟨lb, o, none⟩)), (.pointer (some ⟨lb, o, none⟩)), (.pointer (some ⟨lb, o, none⟩)), (.pointer (some ⟨lb, o, none⟩)), (.slice ad l.length cap), (.pointer (some ⟨lb, o, none⟩)), (.pointer (some ⟨lb, o, none⟩)), (.pointer (some ⟨lb, o + 1, none⟩)), (.int .i64 (last + 1)), (.int .i64 f), (.int .i64 t), (.slice adD d0.length capD), (.agg #[.int .i64 (last + 1), .int .i64 f, .int .i64 t, .slice adD d0.length capD]), (.agg #[.int .i64 (last + 1), .int .i64 f, .int .i64 t, .slice g.1 d0.length g.2.1]), (.slice (some ⟨g.2.2.1, 0, none⟩) 1 1), (.slice g.2.2.2.1 (l.length + 1) g.2.2.2.2), (.pointer (some ⟨lb, o, none⟩)), (.pointer (some ⟨lb, o, none⟩)), undef] : List Value).getD i__ undef) (fun g d V => JS w2 base lb o ad cap (last + 1) most l av (last + 1, f, t, d0) g (d 13) (d 14) (d 15) (d 18) V) (by kernel_rfl) ((none, 0, 0, none, 0)) ⟨hR2.carry (Below.refl _ _).drew, (Below.refl _ _).drew⟩ ?step1 ?fin1
  case step1 =>
    intro i o ho
    have hi : i < 19 := getElem?_lt ho
    match i, hi, ho with
    | 0, _, ho =>
      cases ho
      refine stepG_of (fun g d hdep => ?_)
      exact step_move rfl trivial _ rfl (by kernel_rfl)
    | 1, _, ho =>
      cases ho
      refine stepG_of (fun g d hdep => ?_)
      exact step_move rfl trivial _ rfl (by kernel_rfl)
    | 2, _, ho =>
      cases ho
      refine stepG_of (fun g d hdep => ?_)
      exact step_nilCheck rfl trivial _ _ _ rfl rfl rfl
    | 3, _, ho =>
      cases ho
      refine stepG_of (fun g d hdep => ?_)
      exact step_fieldAddr rfl trivial _ _ _ _ rfl rfl (fun v hw => field_r v _ _ 0 (by decide))
    | 4, _, ho =>
      cases ho
      exact stepG_ofC (fun g d hun hcl => step_load rfl trivial _ _ _ rfl rfl (fun v hw => load_gs (JS.cL hw (by cases h : d 18 with | false => rfl | true => exact absurd (hcl 18 _ rfl h 4 (by kernel_rfl)) (by rw [hun]; simp)))))
    | 5, _, ho =>
      cases ho
      refine stepG_of (fun g d hdep => ?_)
      exact step_move rfl trivial _ rfl (by kernel_rfl)
    | 6, _, ho =>
      cases ho
      refine stepG_of (fun g d hdep => ?_)
      exact step_nilCheck rfl trivial _ _ _ rfl rfl rfl
    | 7, _, ho =>
      cases ho
      refine stepG_of (fun g d hdep => ?_)
      exact step_fieldAddr rfl trivial _ _ _ _ rfl rfl (fun v hw => field_r v _ _ 1 (by decide))
    | 8, _, ho =>
      cases ho
      refine stepG_of (fun g d hdep => ?_)
      exact step_load rfl trivial _ _ _ rfl rfl (fun v hw => load_i (JS.cA hw))
    | 9, _, ho =>
      cases ho
      refine stepG_of (fun g d hdep => ?_)
      exact step_move rfl trivial _ rfl (by kernel_rfl)
    | 10, _, ho =>
      cases ho
      refine stepG_of (fun g d hdep => ?_)
      exact step_move rfl trivial _ rfl (by kernel_rfl)
    | 11, _, ho =>
      cases ho
      refine stepG_of (fun g d hdep => ?_)
      exact step_move rfl trivial _ rfl (by kernel_rfl)
    | 12, _, ho =>
      cases ho
      exact stepG_struct4 rfl rfl _ _ _ _ _ (fun g => .int .i64 (last + 1)) (fun g => .int .i64 f) (fun g => .int .i64 t) (fun g => .slice adD d0.length capD) rfl (fun g => ⟨rfl, rfl, rfl, rfl⟩) (fun g d V hJ hun => ⟨build_g _ _ _ _ _ _ V, hJ⟩)
    | 13, _, ho =>
      cases ho
      exact stepG_call rfl (fun g => trivial) 82 _ _ (fun _ => [.agg #[.int .i64 (last + 1), .int .i64 f, .int .i64 t, .slice adD d0.length capD]]) rfl (fun g => rfl) (enters_of Tryz.func82 (by kernel_rfl) rfl) (fun g d V hJ hun hdep hcl => (cpy g V hJ hun (by cases h : d 14 with | false => rfl | true => exact absurd (hcl 14 _ rfl h 13 (by kernel_rfl)) (by rw [hun]; simp))).mono (by rintro e w' ⟨g', rfl, hJ'⟩; exact ⟨g', rfl, (fun j hj => match j, hj with | 13, hj => (by rw [hj] at hun; cases hun) | 14, hj => absurd ((hcl 14 _ rfl hj 13 (by kernel_rfl))) (by rw [hun]; simp) | 15, hj => absurd ((hcl 14 _ rfl (hcl 15 _ rfl hj 14 (by kernel_rfl)) 13 (by kernel_rfl))) (by rw [hun]; simp) | 18, hj => absurd ((hcl 14 _ rfl (hcl 15 _ rfl (hcl 18 _ rfl hj 15 (by kernel_rfl)) 14 (by kernel_rfl)) 13 (by kernel_rfl))) (by rw [hun]; simp) | 0, _ => rfl | 1, _ => rfl | 2, _ => rfl | 3, _ => rfl | 4, _ => rfl | 5, _ => rfl | 6, _ => rfl | 7, _ => rfl | 8, _ => rfl | 9, _ => rfl | 10, _ => rfl | 11, _ => rfl | 12, _ => rfl | 16, _ => rfl | 17, _ => rfl | _ + 19, _ => rfl), hJ'⟩))
    | 14, _, ho =>
      cases ho
      exact stepG_buildG rfl rfl _ _ (fun g => .agg #[.int .i64 (last + 1), .int .i64 f, .int .i64 t, .slice g.1 d0.length g.2.1]) rfl (fun g => rfl) (fun g d V hJ hun hdep hcl => ⟨(g.1, g.2.1, V.heap.size, g.2.2.2), _, bsG1 V _ _ _ _ _ _, (fun j hj => match j, hj with | 14, hj => (by rw [hj] at hun; cases hun)  | 0, _ => rfl | 1, _ => rfl | 2, _ => rfl | 3, _ => rfl | 4, _ => rfl | 5, _ => rfl | 6, _ => rfl | 7, _ => rfl | 8, _ => rfl | 9, _ => rfl | 10, _ => rfl | 11, _ => rfl | 12, _ => rfl | 13, _ => rfl | 15, _ => rfl | 16, _ => rfl | 17, _ => rfl | 18, _ => rfl | _ + 19, _ => rfl), bld g V hJ (hdep 13 (by kernel_rfl)) hun (by cases h : d 15 with | false => rfl | true => exact absurd (hcl 15 _ rfl h 14 (by kernel_rfl)) (by rw [hun]; simp))⟩)
    | 15, _, ho =>
      cases ho
      exact stepG_append rfl rfl _ _ _ (fun _ => .slice ad l.length cap) (fun g => .slice (some ⟨g.2.2.1, 0, none⟩) 1 1) rfl (fun g => rfl) (fun g => rfl) (fun g d V hJ hun hdep hcl => by obtain ⟨g', w', a1, a2, a3⟩ := app g V hJ (hdep 13 (by kernel_rfl)) (hdep 14 (by kernel_rfl)) hun (by cases h : d 18 with | false => rfl | true => exact absurd (hcl 18 _ rfl h 15 (by kernel_rfl)) (by rw [hun]; simp)); exact ⟨g', w', a1, (by rw [a2]; exact (fun j hj => match j, hj with | 15, hj => (by rw [hj] at hun; cases hun) | 18, hj => absurd ((hcl 18 _ rfl hj 15 (by kernel_rfl))) (by rw [hun]; simp) | 0, _ => rfl | 1, _ => rfl | 2, _ => rfl | 3, _ => rfl | 4, _ => rfl | 5, _ => rfl | 6, _ => rfl | 7, _ => rfl | 8, _ => rfl | 9, _ => rfl | 10, _ => rfl | 11, _ => rfl | 12, _ => rfl | 13, _ => rfl | 14, _ => rfl | 16, _ => rfl | 17, _ => rfl | _ + 19, _ => rfl)), a3⟩)
    | 16, _, ho =>
      cases ho
      refine stepG_of (fun g d hdep => ?_)
      exact step_nilCheck rfl trivial _ _ _ rfl rfl rfl
    | 17, _, ho =>
      cases ho
      refine stepG_of (fun g d hdep => ?_)
      exact step_fieldAddr rfl trivial _ _ _ _ rfl rfl (fun v hw => field_r v _ _ 0 (by decide))
    | 18, _, ho =>
      cases ho
      exact stepG_store rfl rfl rfl _ _ _ (fun _ => .pointer (some ⟨lb, o, none⟩)) (fun g => .slice g.2.2.2.1 (l.length + 1) g.2.2.2.2) rfl (fun g => rfl) (fun g => rfl) (fun g d V hJ hun hdep => sto g V hJ (hdep 13 (by kernel_rfl)) (hdep 14 (by kernel_rfl)) (hdep 15 (by kernel_rfl)) hun)
  intro g d W hall hW
  first | refine hK _ _ ?_ | refine (‹∀ (a : Act) (w : World), Code.wp Tryz.prog _ _ a w → _›) _ _ ?_ | skip
  simp only [finL, List.getD_cons_zero, List.getD_cons_succ, Nat.zero_add, Nat.reduceAdd, List.setIfInBounds_toArray, List.set_cons_zero, List.set_cons_succ]
  have hJ : JS w2 base lb o ad cap (last + 1) most l av (last + 1, f, t, d0) g (d 13) (d 14) (d 15) (d 18) W := hW
  rw [hall 13 (by decide), hall 14 (by decide), hall 15 (by decide), hall 18 (by decide)] at hJ
  obtain ⟨hR3, hT3, hN3⟩ := hJ
  have cA3 := hR3.cA
  clear hW cpy bld app sto cA zA
  go_wp2
  go_ret2
  refine ⟨rfl, g.2.2.2.1, g.2.2.2.2, _, hR3, hT0.trans hT3, fun k a q => ?_⟩
  by_cases hk : k < av.length
  · rw [List.getElem?_append_left hk] at q
    exact .inl ⟨q, List.getElem?_append_left (by rw [← h.len]; exact hk)⟩
  · rw [List.getElem?_append_right (by omega)] at q
    have := (List.getElem?_eq_some_iff.1 q).1
    have e : k - av.length = 0 := by simp at this; omega
    rw [e] at q
    simp at q
    subst q
    exact .inr (fun b e => Nat.le_trans hT0.size (hN3 b e))
end
end Go.Proofs.YtjfbnikbmadgkaaGreat
