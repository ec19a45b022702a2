/- bag's New, add, Send: what they answer. -/
import Derived.Test.YtjfbnikbmadgkaaGreatBgd
namespace Go.Proofs.YtjfbnikbmadgkaaGreat
open Go.RowKit Go.Shelf

section
variable {G : Type} {P : Program} {md : Region.Mode} {ops : Array Oper} {Q : Exit → Act → World → Prop} {X0 : Array Value} {val : G → Nat → Value} {J : G → (Nat → Bool) → World → Prop} {i : Nat} {o : Oper}
theorem stepG_call (hi : ops[i]? = some o) (hg : ∀ g, GOk md ops X0 (val g) i o) (f : FuncId) (xs : Array Operand) (ts : Array TypeId) (vs : G → List Value) (ho : o.op = .call { callee := .value (.func f), args := xs, argTypes := ts })
    (hx : ∀ g, xs.toList.map (rdo md ops X0 (val g) i o) = (vs g).map some) (hen : ∀ args w, (callFunc f args).run P w = .ok (.enter f args) w)
    (hc : ∀ g d w, J g d w → d i = false → (∀ j, bindsOn md o j = true → d j = true) → (∀ j oj, ops[j]? = some oj → d j = true → ∀ k, bindsOn md oj k = true → d k = true) → Calls P f (vs g).toArray w fun e w' => ∃ g', e = .returned (val g' i) ∧ (∀ j, d j = true → val g' j = val g j) ∧ J g' (fun j => if j = i then true else d j) w') : StepG P md ops Q X0 val J i o := by
  intro g d a w hJ hun hdep hcl hS
  unfold wpOp
  rw [hi]
  have hS' : Seen md ops X0 (val g) i o a := hS
  simp only [wanted_of hS' (hg g), if_true]
  refine .inl ?_
  unfold Oper.wp execOp
  have e : xs.map a.eval = (vs g).toArray := by
    apply Array.toList_inj.1
    rw [Array.toList_map]
    exact hS'.evals _ _ (hx g)
  have e2 : a.eval (.func f) = .func (.func f) #[] #[] := rfl
  simp only [ho, resolve, e, e2, Deferred.ofValue, Sem.run_bind, Sem.run_pure, Result.andThen_ok, invoke, Array.empty_append, Array.append_empty, hen, Oper.upon_enter]
  refine (hc g d w hJ hun hdep hcl).mono ?_
  rintro e' w' ⟨g', rfl, h1, h2⟩
  exact ⟨g', h1, rfl, h2⟩
theorem stepG_box (hi : ops[i]? = some o) (hg : o.guard = none) (t : TypeId) (x : Operand) (vx : G → Value) (ho : o.op = .box t x) (hx : ∀ g, rdo md ops X0 (val g) i o x = some (vx g))
    (h : ∀ g d w, J g d w → d i = false → (∀ j, bindsOn md o j = true → d j = true) → (∀ j oj, ops[j]? = some oj → d j = true → ∀ k, bindsOn md oj k = true → d k = true) → ∃ g' w', (Instr.box t (vx g)).run P w = .ok (val g' i) w' ∧ (∀ j, d j = true → val g' j = val g j) ∧ J g' (fun j => if j = i then true else d j) w') : StepG P md ops Q X0 val J i o := by
  intro g d a w hJ hun hdep hcl hS
  have hS' : Seen md ops X0 (val g) i o a := hS
  obtain ⟨g', w', h1, h2, h3⟩ := h g d w hJ hun hdep hcl
  unfold wpOp
  rw [hi]
  simp only [Region.wanted, hg, if_true]
  refine .inl ?_
  unfold Oper.wp execOp
  simp only [ho, hS'.eval (hx g), Sem.run_bind, h1, Result.andThen_ok, Sem.run_pure, Oper.upon_value]
  exact ⟨g', h2, rfl, h3⟩
theorem stepG_struct4 (hi : ops[i]? = some o) (hg : o.guard = none) (t : TypeId) (x0 x1 x2 x3 : Operand) (v0 v1 v2 v3 : G → Value) (ho : o.op = .build t #[(0, x0), (1, x1), (2, x2), (3, x3)]) (hx : ∀ g, rdo md ops X0 (val g) i o x0 = some (v0 g) ∧ rdo md ops X0 (val g) i o x1 = some (v1 g) ∧ rdo md ops X0 (val g) i o x2 = some (v2 g) ∧ rdo md ops X0 (val g) i o x3 = some (v3 g))
    (h : ∀ g d w, J g d w → d i = false → (Instr.build t #[(0, v0 g), (1, v1 g), (2, v2 g), (3, v3 g)]).run P w = .ok (val g i) w ∧ J g (fun j => if j = i then true else d j) w) : StepG P md ops Q X0 val J i o := by
  intro g d a w hJ hun hdep hcl hS
  have hS' : Seen md ops X0 (val g) i o a := hS
  obtain ⟨h1, h3⟩ := h g d w hJ hun
  obtain ⟨q0, q1, q2, q3⟩ := hx g
  unfold wpOp
  rw [hi]
  simp only [Region.wanted, hg, if_true]
  refine .inl ?_
  unfold Oper.wp execOp
  simp only [ho, List.map_toArray, List.map_cons, List.map_nil, hS'.eval q0, hS'.eval q1, hS'.eval q2, hS'.eval q3, Sem.run_bind, h1, Result.andThen_ok, Sem.run_pure, Oper.upon_value]
  exact ⟨g, fun _ _ => rfl, rfl, h3⟩
end
section
variable {w : World} {base p : Nat} {ad : Option Addr} {cap : Nat} {room last : Int} {ps : List Nat} {l : List Gr}
/-- What New makes. -/
theorem new_bg {σ : Nat → Prop} (w : World) (room : Int) (h0 : 0 ≤ room) (h1 : room ≤ 65536) (hs : ∀ b, σ b → b < w.heap.size) : Bg σ (w.alloc (.cells #[.int .i64 room, .int .i64 0, .slice none 0 0] 54)) w.heap.size w.heap.size none 0 room 0 [] [] :=
  ⟨Nat.le_refl _, new_at rfl, World.ownsRow_nil _ _ _ _, rfl, fun k q x h => by simp at h, by simpa using h0, h1, fun b q => by have := hs b q; simp; omega⟩
set_option maxHeartbeats 1000000 in
set_option maxRecDepth 100000 in
theorem new_ok {σ : Nat → Prop} (room : Int) (w : World) (h0 : 0 ≤ room) (h1 : room ≤ 65536) (hs : ∀ b, σ b → b < w.heap.size) : Calls Tryz.prog 6 #[.int .i64 room] w fun e w' => e = .returned (.tuple #[.pointer (some ⟨w.heap.size, 0, none⟩), .int .i64 0]) ∧ Bg σ w' w.heap.size w.heap.size none 0 room 0 [] [] ∧ Below w.heap.size w w' := by
  have hb := new_bg w room h0 h1 hs
  have q0 : ¬ room < 0 := by omega
  have q1 : ¬ room > 65536 := by omega
  go_enter Tryz.func6, Tryz.ntmps6
  go_wp2
  go_ret2
  exact ⟨rfl, hb, al1' _ _⟩
set_option maxHeartbeats 1000000 in
set_option maxRecDepth 100000 in
theorem new_no (room : Int) (w : World) (h : room < 0 ∨ 65536 < room) : Calls Tryz.prog 6 #[.int .i64 room] w fun e w' => e = .returned (.tuple #[.pointer none, .int .i64 1]) ∧ w' = w := by
  by_cases h0 : room < 0
  · clear h
    go_enter Tryz.func6, Tryz.ntmps6
    go_wp2
    go_ret2
    exact ⟨rfl, rfl⟩
  · have h1 : room > 65536 := by omega
    clear h
    go_enter Tryz.func6, Tryz.ntmps6
    go_wp2
    go_ret2
    exact ⟨rfl, rfl⟩
/-- The last id is put. -/
theorem Bg.count {σ : Nat → Prop} (h : Bg σ w base p ad cap room last ps l) (x : Int) : Bg σ (w.setCell ⟨p, 1, none⟩ (.int .i64 x)) base p ad cap room x ps l ∧ Tn p (ob ad) (ob ad) w (w.setCell ⟨p, 1, none⟩ (.int .i64 x)) := by
  have ht : Tn p (ob ad) (ob ad) w (w.setCell ⟨p, 1, none⟩ (.int .i64 x)) := ⟨rfl, rfl, rfl, by simp, fun k _ h1 _ => Below.heap_setCell _ _ _ _ h1, .inl rfl⟩
  refine ⟨⟨h.pb, ?_, row_other h.row (by rw [ob_eq]; exact h.ne) _, h.len, fun k q y h1 h2 => (h.gr k q y h1 h2).tn h ht, h.le, h.most, fun b q => Nat.lt_of_lt_of_le (h.sg b q) ht.size⟩, ht⟩
  have := heap_setCell_same _ _ 1 _ _ (.int .i64 x) h.obj
  simpa using this
/-- What holds while a datagram is made. -/
def JAd (σ : Nat → Prop) (w : World) (base p : Nat) (ad : Option Addr) (cap : Nat) (room last : Int) (ps : List Nat) (l : List Gr) (x : Gr) (g : Option Addr × Nat × Nat) (d10 d12 d13 : Bool) (W : World) : Prop :=
  match d10, d12, d13 with
  | false, _, _ => Bg σ W base p ad cap room last ps l ∧ Below w.heap.size w W
  | true, false, _ => Bg σ W base p ad cap room last ps l ∧ Below w.heap.size w W ∧ W.ownsRow w.heap.size 5 1 (.slice g.1 x.2.2.2.length g.2.1) x.2.2.2.length (cB x.2.2.2)
  | true, true, false => Bg σ W base p ad cap room last ps l ∧ Below w.heap.size w W ∧ GmAt σ W g.2.2 x
  | true, true, true => ∃ ad' cap', Bg σ W base p ad' cap' room last (ps ++ [g.2.2]) (l ++ [x]) ∧ Tn p (ob ad) (ob ad') w W
theorem JAd.c1 {σ : Nat → Prop} {x : Gr} {g : Option Addr × Nat × Nat} {d10 d12 d13 : Bool} {W : World} (h : JAd σ w base p ad cap room last ps l x g d10 d12 d13 W) : W.cell? ⟨p, 1, none⟩ = some (.int .i64 last) := by
  match d10, d12, d13, h with
  | false, _, _, h => exact h.1.c1
  | true, false, _, h => exact h.1.c1
  | true, true, false, h => exact h.1.c1
  | true, true, true, ⟨_, _, h, _⟩ => exact h.c1
theorem JAd.bg {σ : Nat → Prop} {x : Gr} {g : Option Addr × Nat × Nat} {d10 d12 d13 : Bool} {W : World} (h : JAd σ w base p ad cap room last ps l x g d10 d12 d13 W) (h13 : d13 = false) : Bg σ W base p ad cap room last ps l := by
  subst h13
  match d10, d12, h with
  | false, _, h => exact h.1
  | true, false, h => exact h.1
  | true, true, h => exact h.1
theorem build_g (i f t : Int) (a : Option Addr) (n c : Nat) (W : World) : (Instr.build 62 #[(0, .int .i64 i), (1, .int .i64 f), (2, .int .i64 t), (3, .slice a n c)]).run Tryz.prog W = .ok (.agg #[.int .i64 i, .int .i64 f, .int .i64 t, .slice a n c]) W := by go_simp
theorem box_g (i f t : Int) (a : Option Addr) (n c : Nat) (W : World) : (Instr.box 62 (.agg #[.int .i64 i, .int .i64 f, .int .i64 t, .slice a n c])).run Tryz.prog W = .ok (.pointer (some ⟨W.heap.size, 0, none⟩)) (W.alloc (.cells #[.int .i64 i, .int .i64 f, .int .i64 t, .slice a n c] 62)) := by go_simp
/-- What add makes of it. -/
def sAdd (room last : Int) (l : List Gr) (f t : Int) (d : List Nat) : Int × Int × Int × List Gr := if (l.length : Int) = room then (0, 90, last, l) else (last + 1, 0, last + 1, l ++ [(last + 1, f, t, d)])
set_option maxHeartbeats 4000000 in
set_option maxRecDepth 100000 in
theorem add_any {σ : Nat → Prop} (h : Bg σ w base p ad cap room last ps l) (f t : Int) (adD : Option Addr) (capD : Nat) (d0 : List Nat) (hd : RdB w adD d0) (hne : d0 ≠ [] → ∀ a, adD = some a → a.block ≠ p) (hby : Byt d0) (hl : d0.length ≤ 1024) (h0 : 0 ≤ last) (h1 : last < 4611686018427387904) : Calls Tryz.prog 79 #[.pointer (some ⟨p, 0, none⟩), .int .i64 f, .int .i64 t, .slice adD d0.length capD] w fun e w' => e = .returned (.tuple #[.int .i64 (sAdd room last l f t d0).1, .int .i64 (sAdd room last l f t d0).2.1]) ∧ ∃ ad' cap' ps', Bg σ w' base p ad' cap' room (sAdd room last l f t d0).2.2.1 ps' (sAdd room last l f t d0).2.2.2 ∧ Tn p (ob ad) (ob ad') w w' := by
  have hmx : Tryz.prog.follows .mixedOrders = true := by kernel_rfl
  have hro := broom_any h
  unfold sAdd
  by_cases hf : (l.length : Int) = room
  · rw [if_pos hf]
    have e0 : room - (l.length : Int) = 0 := by omega
    rw [e0] at hro
    clear hf e0
    go_enter Tryz.func79, Tryz.ntmps79
    go_wp2_with (go_at_call 12; (with_reducible refine hro.mono ?_); rintro e u1 ⟨rfl, hb1⟩)
    go_ret2
    exact ⟨rfl, ad, cap, ps, h.carry hb1, Tn.of p _ hb1⟩
  · rw [if_neg hf]
    dsimp only
    obtain ⟨z, hz, hz0⟩ : ∃ z, room - (l.length : Int) = z ∧ (z == 0) = false := ⟨_, rfl, by simp; omega⟩
    have hroom : (l.length : Int) + 1 ≤ room := by have := h.le; omega
    rw [hz] at hro
    have HZ : Hid (room - (l.length : Int) = z) := hz
    have hz1 : ¬ z = 0 := by simpa using hz0
    clear hf hz
    go_enter Tryz.func79, Tryz.ntmps79
    go_wp2_with (go_at_call 12; (with_reducible refine hro.mono ?_); rintro e u1 ⟨rfl, hb1⟩; have hB1 := h.carry hb1; have c1 := hB1.c1; have y1 := thaw_at hB1.obj 1)
    obtain ⟨hB2, hT2⟩ := hB1.count (last + 1)
    have hT0 : Tn p (ob ad) (ob ad) w (u1.setCell ⟨p, 1, none⟩ (.int .i64 (last + 1))) := (Tn.of p _ hb1).trans hT2
    have hd2 : RdB (u1.setCell ⟨p, 1, none⟩ (.int .i64 (last + 1))) adD d0 := fun hn => by
      obtain ⟨b, off, e1, e2, e3⟩ := hd.carry hb1 hn
      exact ⟨b, off, e1, by simpa using e2, e3.carry (Below.heap_setCell _ _ _ _ (hne hn _ e1))⟩
    obtain ⟨w2, hw2⟩ : ∃ w2, u1.setCell ⟨p, 1, none⟩ (.int .i64 (last + 1)) = w2 := ⟨_, rfl⟩
    rw [hw2] at hB2 hT0 hd2 ⊢
    clear hw2 hT2 c1 y1 hB1 hro hz0 hz1 hd hne
    have clo : ∀ {d : Nat → Bool} (g : Option Addr × Nat × Nat) (V : World), JAd σ w2 base p ad cap room (last + 1) ps l (last + 1, f, t, d0) g (d 10) (d 12) (d 13) V → d 10 = false → d 12 = false → Calls Tryz.prog 115 #[.slice adD d0.length capD] V fun e w' => ∃ g' : Option Addr × Nat × Nat, e = .returned (.slice g'.1 d0.length g'.2.1) ∧ g'.2.2 = g.2.2 ∧ JAd σ w2 base p ad cap room (last + 1) ps l (last + 1, f, t, d0) g' true (d 12) (d 13) w' := by
      intro d g V hJ h10 h12
      rw [h10] at hJ
      obtain ⟨hb, hbl⟩ := hJ
      refine (cloneB_any adD capD d0 V (hd2.carry hbl) (by omega)).mono ?_
      rintro e w' ⟨a, c, rfl, ho, hb'⟩
      rw [h12]
      exact ⟨(a, c, g.2.2), rfl, rfl, hb.carry hb', bel2 hbl hb', row_base ho hbl.size⟩
    have bxx : ∀ {d : Nat → Bool} (g : Option Addr × Nat × Nat) (V : World), JAd σ w2 base p ad cap room (last + 1) ps l (last + 1, f, t, d0) g (d 10) (d 12) (d 13) V → d 10 = true → d 12 = false → d 13 = false → ∃ (g' : Option Addr × Nat × Nat) (w' : World), (Instr.box 62 (.agg #[.int .i64 (last + 1), .int .i64 f, .int .i64 t, .slice g.1 d0.length g.2.1])).run Tryz.prog V = .ok (.pointer (some ⟨g'.2.2, 0, none⟩)) w' ∧ g' = (g.1, g.2.1, V.heap.size) ∧ JAd σ w2 base p ad cap room (last + 1) ps l (last + 1, f, t, d0) g' (d 10) true (d 13) w' ∧ True := by
      intro d g V hJ h10 h12 h13
      rw [h10, h12] at hJ
      obtain ⟨hb, hbl, ho⟩ := hJ
      rw [h10, h13]
      have ha := al1' V (.cells #[.int .i64 (last + 1), .int .i64 f, .int .i64 t, .slice g.1 d0.length g.2.1] 62)
      exact ⟨_, _, box_g _ _ _ _ _ _ V, rfl, ⟨hb.carry ha, bel2 hbl ha, g.1, g.2.1, ⟨new_at rfl, RdY.own (row_below ho ha), hby, hl⟩, (fun q => Nat.lt_irrefl _ (hb.sg _ q)), fun _ a e q => by have k1 := own_block ho a.block (by rw [ob_eq]; show ob g.1 = _; rw [show g.1 = some a from e]; rfl); have k2 := hB2.sg _ q; omega⟩, trivial⟩
    have pui : ∀ {d : Nat → Bool} (g : Option Addr × Nat × Nat) (V : World), JAd σ w2 base p ad cap room (last + 1) ps l (last + 1, f, t, d0) g (d 10) (d 12) (d 13) V → d 10 = true → d 12 = true → d 13 = false → Calls Tryz.prog 86 #[.pointer (some ⟨p, 0, none⟩), .int .i64 (l.length : Int), .pointer (some ⟨g.2.2, 0, none⟩)] V fun e w' => e = .returned (.tuple #[]) ∧ JAd σ w2 base p ad cap room (last + 1) ps l (last + 1, f, t, d0) g (d 10) (d 12) true w' := by
      intro d g V hJ h10 h12 h13
      rw [h10, h12, h13] at hJ
      obtain ⟨hb, hbl, hgm⟩ := hJ
      refine (putIn_any hb l.length g.2.2 _ (Nat.le_refl _) hgm hroom).mono ?_
      rintro e w' ⟨rfl, ad', cap', hB, hT⟩
      rw [h10, h12]
      rw [← hb.len, List.take_length, List.drop_length, hb.len, List.take_length, List.drop_length] at hB
      exact ⟨rfl, ad', cap', hB, (Tn.of p _ hbl).trans hT⟩
    rename_i Q0 K0 hK
    refine wp_region_any hmx ?_
    refine wpAny_tabG (G := (Option Addr × Nat × Nat)) (fun g i__ => ([(.pointer (some ⟨p, 0, none⟩)), (.pointer (some ⟨p, 0, none⟩)), (.int .i64 (l.length : Int)), (.pointer (some ⟨p, 0, none⟩)), (.pointer (some ⟨p, 0, none⟩)), (.pointer (some ⟨p, 1, none⟩)), (.int .i64 (last + 1)), (.int .i64 f), (.int .i64 t), (.slice adD d0.length capD), (.slice g.1 d0.length g.2.1), (.agg #[.int .i64 (last + 1), .int .i64 f, .int .i64 t, .slice g.1 d0.length g.2.1]), (.pointer (some ⟨g.2.2, 0, none⟩)), (.tuple #[])] : List Value).getD i__ undef) (fun g d V => JAd σ w2 base p ad cap room (last + 1) ps l (last + 1, f, t, d0) g (d 10) (d 12) (d 13) V) (by kernel_rfl) ((none, 0, 0)) ⟨hB2.carry (Below.refl _ _).drew, (Below.refl _ _).drew⟩ ?step6 ?fin6
    case step6 =>
      intro i o ho
      have hi : i < 14 := getElem?_lt ho
      match i, hi, ho with
      | 0, _, ho =>
        cases ho
        refine stepG_of (fun g d hdep => ?_)
        exact step_move rfl trivial _ rfl (by kernel_rfl)
      | 1, _, ho =>
        cases ho
        refine stepG_of (fun g d hdep => ?_)
        exact step_move rfl trivial _ rfl (by kernel_rfl)
      | 2, _, ho =>
        cases ho
        exact stepG_call rfl (fun g => trivial) 30 _ _ (fun _ => [.pointer (some ⟨p, 0, none⟩)]) rfl (fun g => rfl) (enters_of Tryz.func30 (by kernel_rfl) rfl) (fun g d V hJ hun hdep hcl => (blen_any (hJ.bg (by cases h : d 13 with | false => rfl | true => exact absurd (hcl 13 _ rfl h 2 (by kernel_rfl)) (by rw [hun]; simp)))).mono (by rintro e w' ⟨rfl, rfl⟩; exact ⟨g, rfl, fun _ _ => rfl, hJ⟩))
      | 3, _, ho =>
        cases ho
        refine stepG_of (fun g d hdep => ?_)
        exact step_move rfl trivial _ rfl (by kernel_rfl)
      | 4, _, ho =>
        cases ho
        refine stepG_of (fun g d hdep => ?_)
        exact step_nilCheck rfl trivial _ _ _ rfl rfl rfl
      | 5, _, ho =>
        cases ho
        refine stepG_of (fun g d hdep => ?_)
        exact step_fieldAddr rfl trivial _ _ _ _ rfl rfl (fun v hw => field_b1 v _)
      | 6, _, ho =>
        cases ho
        refine stepG_of (fun g d hdep => ?_)
        exact step_load rfl trivial _ _ _ rfl rfl (fun v hw => load_i hw.c1)
      | 7, _, ho =>
        cases ho
        refine stepG_of (fun g d hdep => ?_)
        exact step_move rfl trivial _ rfl (by kernel_rfl)
      | 8, _, ho =>
        cases ho
        refine stepG_of (fun g d hdep => ?_)
        exact step_move rfl trivial _ rfl (by kernel_rfl)
      | 9, _, ho =>
        cases ho
        refine stepG_of (fun g d hdep => ?_)
        exact step_move rfl trivial _ rfl (by kernel_rfl)
      | 10, _, ho =>
        cases ho
        exact stepG_call rfl (fun g => trivial) 115 _ _ (fun _ => [.slice adD d0.length capD]) rfl (fun g => rfl) (enters_of Tryz.func115 (by kernel_rfl) rfl) (fun g d V hJ hun hdep hcl => (clo g V hJ hun (by cases h : d 12 with | false => rfl | true => exact absurd (hcl 11 _ rfl (hcl 12 _ rfl h 11 (by kernel_rfl)) 10 (by kernel_rfl)) (by rw [hun]; simp))).mono (by rintro e w' ⟨g', rfl, hg', hJ'⟩; exact ⟨g', rfl, (fun j hj => match j, hj with | 10, hj => (by rw [hj] at hun; cases hun) | 11, hj => absurd ((hcl 11 _ rfl hj 10 (by kernel_rfl))) (by rw [hun]; simp) | 12, hj => absurd ((hcl 11 _ rfl (hcl 12 _ rfl hj 11 (by kernel_rfl)) 10 (by kernel_rfl))) (by rw [hun]; simp) | 13, hj => absurd ((hcl 11 _ rfl (hcl 12 _ rfl (hcl 13 _ rfl hj 12 (by kernel_rfl)) 11 (by kernel_rfl)) 10 (by kernel_rfl))) (by rw [hun]; simp) | 0, _ => rfl | 1, _ => rfl | 2, _ => rfl | 3, _ => rfl | 4, _ => rfl | 5, _ => rfl | 6, _ => rfl | 7, _ => rfl | 8, _ => rfl | 9, _ => rfl | _ + 14, _ => rfl), hJ'⟩))
      | 11, _, ho =>
        cases ho
        exact stepG_struct4 rfl rfl _ _ _ _ _ (fun g => .int .i64 (last + 1)) (fun g => .int .i64 f) (fun g => .int .i64 t) (fun g => .slice g.1 d0.length g.2.1) rfl (fun g => ⟨rfl, rfl, rfl, rfl⟩) (fun g d V hJ hun => ⟨build_g _ _ _ _ _ _ V, hJ⟩)
      | 12, _, ho =>
        cases ho
        exact stepG_box rfl rfl _ _ (fun g => .agg #[.int .i64 (last + 1), .int .i64 f, .int .i64 t, .slice g.1 d0.length g.2.1]) rfl (fun g => rfl) (fun g d V hJ hun hdep hcl => by obtain ⟨g', w', a1, a2, a3, a4⟩ := bxx g V hJ (hcl 11 _ rfl (hdep 11 (by kernel_rfl)) 10 (by kernel_rfl)) hun (by cases h : d 13 with | false => rfl | true => exact absurd (hcl 13 _ rfl h 12 (by kernel_rfl)) (by rw [hun]; simp)); subst a2; exact ⟨_, w', a1, (fun j hj => match j, hj with | 12, hj => (by rw [hj] at hun; cases hun)  | 0, _ => rfl | 1, _ => rfl | 2, _ => rfl | 3, _ => rfl | 4, _ => rfl | 5, _ => rfl | 6, _ => rfl | 7, _ => rfl | 8, _ => rfl | 9, _ => rfl | 10, _ => rfl | 11, _ => rfl | 13, _ => rfl | _ + 14, _ => rfl), a3⟩)
      | 13, _, ho =>
        cases ho
        exact stepG_call rfl (fun g => trivial) 86 _ _ (fun g => [.pointer (some ⟨p, 0, none⟩), .int .i64 (l.length : Int), .pointer (some ⟨g.2.2, 0, none⟩)]) rfl (fun g => rfl) (enters_of Tryz.func86 (by kernel_rfl) rfl) (fun g d V hJ hun hdep hcl => by refine (pui g V hJ (hcl 11 _ rfl (hcl 12 _ rfl (hdep 12 (by kernel_rfl)) 11 (by kernel_rfl)) 10 (by kernel_rfl)) (hdep 12 (by kernel_rfl)) hun).mono ?_; rintro e w' ⟨rfl, hJ'⟩; exact ⟨g, rfl, fun _ _ => rfl, hJ'⟩)
    intro g d W hall hW
    first | refine hK _ _ ?_ | refine (‹∀ (a : Act) (w : World), Code.wp Tryz.prog _ _ a w → _›) _ _ ?_ | skip
    simp only [finL, List.getD_cons_zero, List.getD_cons_succ, Nat.zero_add, Nat.reduceAdd, List.setIfInBounds_toArray, List.set_cons_zero, List.set_cons_succ]
    have hJ : JAd σ w2 base p ad cap room (last + 1) ps l (last + 1, f, t, d0) g (d 10) (d 12) (d 13) W := hW
    rw [hall 10 (by decide), hall 12 (by decide), hall 13 (by decide)] at hJ
    obtain ⟨ad', cap', hB, hT⟩ := hJ
    have c1 := hB.c1
    clear hW hK clo bxx pui
    go_wp2
    go_ret2
    exact ⟨rfl, ad', cap', _, hB, hT0.trans hT⟩
end
end Go.Proofs.YtjfbnikbmadgkaaGreat
