/- wire.reader.news: what it answers. -/
import Derived.Test.YtklnfbanfgdgcaaGreatDoorJnJ30
import Derived.Test.YtklnfbanfgdgcaaGreatDoorJnJ0
import Derived.Test.YtklnfbanfgdgcaaGreatDoorJnJ25
import Derived.Test.YtklnfbanfgdgcaaGreatDoorJnJ29
import Derived.Test.YtklnfbanfgdgcaaGreatDoorJnJ27
set_option maxHeartbeats 40000000
set_option maxRecDepth 100000
set_option linter.unusedVariables false
namespace Go.Proofs.YtklnfbanfgdgcaaGreatDoor
open Go.RowKit Go.Shelf

theorem getD_some {l : List Nat} {i : Nat} (h : i < l.length) : l[i]? = some (l.getD i 0) := by
  rw [List.getD_eq_getElem?_getD, List.getElem?_eq_getElem h]
  rfl
end Go.Proofs.YtklnfbanfgdgcaaGreatDoor
namespace Go.Proofs.YtklnfbanfgdgcaaGreatDoor
open Go.RowKit Go.Shelf Go.Lib
attribute [local go_sem] Oper.semAt_some

section
variable {P : Program} {md : Region.Mode} {ops : Array Oper} {Q : Exit → Act → World → Prop} {X0 : Array Value} {val : Nat → Value} {J J' : World → Prop} {i : Nat} {o : Oper}
theorem step_bld3 (hi : ops[i]? = some o) (hg : GOk md ops X0 val i o) (t : TypeId) (k0 k1 k2 : Nat) (x0 x1 x2 : Operand) (v0 v1 v2 : Value) (ho : o.op = .build t #[(k0, x0), (k1, x1), (k2, x2)]) (h0 : rdo md ops X0 val i o x0 = some v0) (h1 : rdo md ops X0 val i o x1 = some v1) (h2 : rdo md ops X0 val i o x2 = some v2) (hr : ∀ w, J w → (Instr.build t #[(k0, v0), (k1, v1), (k2, v2)]).run P w = .ok (val i) w) : StepAt P md ops Q X0 val J J i o :=
  step_of hi hg fun a w hJ hS => by
    unfold Oper.wp execOp
    simp only [ho, hS.eval h0, hS.eval h1, hS.eval h2, List.map_toArray, List.map_cons, List.map_nil, Sem.run_bind, hr w hJ, Result.andThen_ok, Sem.run_pure, Oper.upon_value]
    exact ⟨trivial, hJ⟩
theorem step_bld8 (hi : ops[i]? = some o) (hg : GOk md ops X0 val i o) (t : TypeId) (k0 k1 k2 k3 k4 k5 k6 k7 : Nat) (x0 x1 x2 x3 x4 x5 x6 x7 : Operand) (v0 v1 v2 v3 v4 v5 v6 v7 : Value) (ho : o.op = .build t #[(k0, x0), (k1, x1), (k2, x2), (k3, x3), (k4, x4), (k5, x5), (k6, x6), (k7, x7)]) (h0 : rdo md ops X0 val i o x0 = some v0) (h1 : rdo md ops X0 val i o x1 = some v1) (h2 : rdo md ops X0 val i o x2 = some v2) (h3 : rdo md ops X0 val i o x3 = some v3) (h4 : rdo md ops X0 val i o x4 = some v4) (h5 : rdo md ops X0 val i o x5 = some v5) (h6 : rdo md ops X0 val i o x6 = some v6) (h7 : rdo md ops X0 val i o x7 = some v7) (hr : ∀ w, J w → (Instr.build t #[(k0, v0), (k1, v1), (k2, v2), (k3, v3), (k4, v4), (k5, v5), (k6, v6), (k7, v7)]).run P w = .ok (val i) w) : StepAt P md ops Q X0 val J J i o :=
  step_of hi hg fun a w hJ hS => by
    unfold Oper.wp execOp
    simp only [ho, hS.eval h0, hS.eval h1, hS.eval h2, hS.eval h3, hS.eval h4, hS.eval h5, hS.eval h6, hS.eval h7, List.map_toArray, List.map_cons, List.map_nil, Sem.run_bind, hr w hJ, Result.andThen_ok, Sem.run_pure, Oper.upon_value]
    exact ⟨trivial, hJ⟩
end
theorem stepG_newT {G : Type} {md : Region.Mode} {ops : Array Oper} {Q : Exit → Act → World → Prop} {X0 : Array Value} {val : G → Nat → Value} {J : G → (Nat → Bool) → World → Prop} {i : Nat} {o : Oper} (hi : ops[i]? = some o) (hg : o.guard = none) (T : TypeId) (C : Array Value) (ho : o.op = .alloc T)
    (hr : ∀ W, (Instr.alloc T true (.tuple #[])).run Tryz.prog W = .ok (.pointer (some ⟨W.heap.size, 0, none⟩)) (W.alloc (.cells C T)))
    (h : ∀ g d W, J g d W → d i = false → (∀ j oj, ops[j]? = some oj → d j = true → ∀ k, bindsOn md oj k = true → d k = true) → ∃ g', (∀ j, d j = true → val g' j = val g j) ∧ val g' i = .pointer (some ⟨W.heap.size, 0, none⟩) ∧ J g' (fun j => if j = i then true else d j) (W.alloc (.cells C T))) : StepG Tryz.prog md ops Q X0 val J i o := by
  intro g d a W hJ hun _ hcl _
  obtain ⟨g', h1, h2, h3⟩ := h g d W hJ hun hcl
  unfold wpOp
  rw [hi]
  simp only [Region.wanted, hg, if_true]
  refine .inl ?_
  unfold Oper.wp execOp
  simp only [ho, Sem.run_bind, hr, Result.andThen_ok, Sem.run_pure, Oper.upon_value]
  exact ⟨g', h1, by rw [h2], h3⟩
theorem Made.form {w W : World} {v : Value} {l : List N3} (h : Made w W v l) : ∃ ad cap, v = .slice ad l.length cap ∧ W.ownsRow w.heap.size 185 3 (.slice ad l.length cap) l.length (fl l) := by
  unfold Made at h
  rcases own_form h with ⟨e1, e2⟩ | ⟨g, c, e1, _⟩
  · exact ⟨none, 0, by rw [e1, e2], by rw [e1] at h; rw [e2] at h ⊢; exact h⟩
  · exact ⟨_, c, e1, e1 ▸ h⟩
theorem RdN.ofRow {W : World} {base : Nat} {ad : Option Addr} {cap : Nat} {l : List N3} (h : W.ownsRow base 185 3 (.slice ad l.length cap) l.length (fl l)) : RdN W ad l := by
  rcases own_form h with ⟨_, e⟩ | ⟨g, cap', e1, h1, h2, h3⟩
  · exact fun hn => absurd (List.eq_nil_of_length_eq_zero e) hn
  · cases e1
    exact fun _ => ⟨g, 0, rfl, h2, nts_own h rfl⟩
/-- What is sent: to whom, and the bytes. -/
structure OE where
  to : Int
  a : Option Addr
  c : Nat
  L : List Nat
def oc (o : OE) : List Value := [.int .i64 o.to, .slice o.a o.L.length o.c]
def ocs (l : List OE) : List Value := l.flatMap oc
theorem ocs_append (a b : List OE) : ocs (a ++ b) = ocs a ++ ocs b := by simp [ocs]
theorem ocs_len : ∀ l : List OE, (ocs l).length = l.length * 2
  | [] => rfl
  | o :: l => by
    have : ocs (o :: l) = oc o ++ ocs l := by simp [ocs]
    rw [this, List.length_append, ocs_len l, List.length_cons]
    simp [oc]; omega
/-- A list of datagrams of one's own, each with bytes of its own. -/
structure Outs (W : World) (base : Nat) (v : Value) (l : List OE) : Prop where
  row : W.ownsRow base 94 2 v l.length (ocs l)
  dat : ∀ o ∈ l, W.ownsRow base 5 1 (.slice o.a o.L.length o.c) o.L.length (cBW o.L)
  apart : l.Pairwise fun o o' => ∀ k, ob o.a = some k → ob o'.a ≠ some k
theorem Outs.nil (W : World) (base : Nat) : Outs W base (.slice none 0 0) [] := ⟨World.ownsRow_nil _ _ _ _, fun _ h => (by cases h), List.Pairwise.nil⟩
theorem infoO : (Tryz.prog.info? 94).map (fun i => (i.zero, i.size, i.bytes)) = some (some (.agg #[.int .i64 0, .slice none 0 0]), 2, 32) := by kernel_rfl
def Outs.say (l : List OE) : List (Int × List Nat) := l.map fun o => (o.to, o.L)
/-- While the query is laid in a box. -/
structure Jq (w : World) (fr ro : Int) (l : List N3) (g : (Option Addr × Nat) × Nat) (d9 d11 d12 : Bool) (V : World) : Prop where
  be : Below w.heap.size w V
  row : d9 = true → V.ownsRow w.heap.size 185 3 (.slice g.1.1 l.length g.1.2) l.length (fl l)
  bx : d11 = true → w.heap.size ≤ g.2 ∧ V.heap[g.2]? = some (.cells (if d12 = true then #[.int .i64 fr, .int .i64 ro, .slice g.1.1 l.length g.1.2] else #[.int .i64 0, .int .i64 0, .slice none 0 0]) 248 (0, 0))
theorem run_allocQ (w : World) : (Instr.alloc 248 true (.tuple #[])).run Tryz.prog w = .ok (.pointer (some ⟨w.heap.size, 0, none⟩)) (w.alloc (.cells #[.int .i64 0, .int .i64 0, .slice none 0 0] 248)) := by go_simp
theorem bld_Q (fr ro : Int) (a : Option Addr) (m c : Nat) (w : World) : (Instr.build 248 #[(0, .int .i64 fr), (1, .int .i64 ro), (2, .slice a m c)]).run Tryz.prog w = .ok (.agg #[.int .i64 fr, .int .i64 ro, .slice a m c]) w := by go_simp
theorem store_Q {W : World} {b : Nat} {C : Array Value} (h : W.heap[b]? = some (.cells C 248 (0, 0))) (hC : ∃ x y z, C = #[x, y, z]) (fr ro : Int) (a : Option Addr) (m c : Nat) : ∃ W', (Instr.storeAt 248 (.pointer (some ⟨b, 0, none⟩)) (.agg #[.int .i64 fr, .int .i64 ro, .slice a m c])).run Tryz.prog W = .ok () W' ∧ W'.heap[b]? = some (.cells #[.int .i64 fr, .int .i64 ro, .slice a m c] 248 (0, 0)) ∧ TpZ b W W' := by
  obtain ⟨x, y, z, rfl⟩ := hC
  have c0 : W.cell? ⟨b, 0, none⟩ = some x := (cell_at h 0).trans rfl
  have c1 : W.cell? ⟨b, 1, none⟩ = some y := (cell_at h 1).trans rfl
  have c2 : W.cell? ⟨b, 2, none⟩ = some z := (cell_at h 2).trans rfl
  have z0 := thaw_at h 0
  have z1 := thaw_at h 1
  have z2 := thaw_at h 2
  refine ⟨((W.setCell ⟨b, 0, none⟩ (.int .i64 fr)).setCell ⟨b, 1, none⟩ (.int .i64 ro)).setCell ⟨b, 2, none⟩ (.slice a m c), by go_simp, ?_, ((TpZ.set _ _ _ _).trans (TpZ.set _ _ _ _)).trans (TpZ.set _ _ _ _)⟩
  have h0 := heap_setCell_same _ _ 0 _ _ (.int .i64 fr) h
  have h1 := heap_setCell_same _ _ 1 _ _ (.int .i64 ro) h0
  exact heap_setCell_same _ _ 2 _ _ (.slice a m c) h1
/-- The queries of a round: to all others, rising. -/
def askTo (n s : Nat) (L : List Nat) : List (Int × List Nat) := ((List.range n).filter (fun i => i != s)).map fun (i : Nat) => ((i : Int), L)
theorem askTo_succ (k s : Nat) (L : List Nat) : askTo (k + 1) s L = if k = s then askTo k s L else askTo k s L ++ [((k : Int), L)] := by
  unfold askTo
  rw [List.range_succ, List.filter_append]
  by_cases h : k = s
  · subst h; simp
  · rw [if_neg h]; simp [h]
/-- The event of a round that is asked. -/
def evAsk (ro : Int) : Ev := ⟨2, 0, 0, ro, 0, 0, 0, 0, 0⟩
def dAskB (s : Ns) : List Nat := fb7 1 (s.n : Int) (s.s : Int) s.t.ro 0 (s.l.filter pNew)
def dAsk (s : Ns) : Ns := { s with ev := s.ev ++ [(evAsk s.t.ro).at (s.s : Int) s.b.r.li] }
end Go.Proofs.YtklnfbanfgdgcaaGreatDoor
namespace Go.Proofs.YtklnfbanfgdgcaaGreatDoor
open Go.RowKit Go.Shelf Go.Lib
attribute [local go_sem] Oper.semAt_some

/-- A datagram put behind the others. -/
theorem Outs.snoc {W W' V : World} {base : Nat} {v v' : Value} {l : List OE} {o : OE} (h : Outs W base v l) (hb : Below W.heap.size W W') (hd : W'.ownsRow W.heap.size 5 1 (.slice o.a o.L.length o.c) o.L.length (cBW o.L)) (hbs : base ≤ W.heap.size) (hr : V.ownsRow base 94 2 v' (l.length + 1) (ocs l ++ oc o)) (hg : W'.grownBy V v.ownBlock) : Outs V base v' (l ++ [o]) := by
  have hrow := row_below h.row hb
  have keep : ∀ {a : Option Addr} {L : List Nat} {c b0 : Nat}, W'.ownsRow b0 5 1 (.slice a L.length c) L.length (cBW L) → V.ownsRow b0 5 1 (.slice a L.length c) L.length (cBW L) := fun hq => row_apart2 hq hg (fun k hk e => by
    obtain ⟨_, c1, h1⟩ := rowBlk hrow k hk
    obtain ⟨_, c2, h2⟩ := rowBlk hq k e
    exact nty h1 h2 (by decide) rfl)
  refine ⟨?_, fun p hp => ?_, ?_⟩
  · rw [ocs_append, List.length_append]
    have e : ocs [o] = oc o := by simp [ocs]
    rw [e]
    exact hr
  · rcases List.mem_append.1 hp with hp | hp
    · exact keep (row_below (h.dat p hp) hb)
    · simp only [List.mem_singleton] at hp
      subst hp
      exact keep (row_base hd hbs)
  · rw [List.pairwise_append]
    refine ⟨h.apart, by simp, fun p hp q hq k e1 e2 => ?_⟩
    simp only [List.mem_singleton] at hq
    subst hq
    have h1 := (row_lt2 (h.dat p hp) k (by rw [ob_eq]; exact e1)).2
    have h2 := (row_lt2 hd k (by rw [ob_eq]; exact e2)).1
    omega
theorem Outs.base {W : World} {b b' : Nat} {v : Value} {l : List OE} (h : Outs W b v l) (hb : b' ≤ b) : Outs W b' v l := ⟨row_base h.row hb, fun o ho => row_base (h.dat o ho) hb, h.apart⟩
set_option maxHeartbeats 8000000 in
set_option maxRecDepth 100000 in
theorem ask_any {w : World} {base x : Nat} {A : NA} {s : Ns} (h : Nd w base x A s) (hl0 : 0 < s.l.length) (hl1 : s.l.length ≤ 100) (hev : s.ev.length ≤ 1000000) (hn : s.n ≤ 100) :
    Calls Tryz.prog 102 #[.pointer (some ⟨x, 0, none⟩)] w fun r w' => ∃ v l A', r = .returned v ∧ Outs w' w.heap.size v l ∧ Outs.say l = askTo s.n s.s (dAskB s) ∧ Nd w' base x A' (dAsk s) ∧ Mv x A A' w w' := by
  have hmx : Tryz.prog.follows .mixedOrders = true := by kernel_rfl
  have c9 := h.obj.c9
  have hro := tround_any h.ta
  obtain ⟨E, hE⟩ : ∃ E, (evAsk s.t.ro).at (s.s : Int) s.b.r.li = E := ⟨_, rfl⟩
  have hrm := remember_any h.obj h.bt h.past h.sz hev (evAsk s.t.ro)
  rw [hE] at hrm
  have e0 : evV (evAsk s.t.ro) = .agg #[.int .i64 2, .int .i64 0, .int .i64 0, .int .i64 s.t.ro, .int .i64 0, .int .i64 0, .int .i64 0, .int .u32 0, .int .u32 0, .int .u32 0, .int .u32 0, .int .u32 0, .int .u32 0, .int .u32 0, .int .u32 0] := by simp [evV, ecA, evAsk, wd_zero]
  rw [e0] at hrm
  have hdA : dAsk s = { s with ev := s.ev ++ [E] } := by unfold dAsk; rw [hE]
  have HA : Hid (dAsk s = { s with ev := s.ev ++ [E] }) := hdA
  obtain ⟨N, hN⟩ : ∃ N, s.l.filter pNew = N := ⟨_, rfl⟩
  have HN : Hid (s.l.filter pNew = N) := hN
  obtain ⟨L, hL⟩ : ∃ L, dAskB s = L := ⟨_, rfl⟩
  have HL : Hid (dAskB s = L) := hL
  rw [hL]
  have hNl : N.length ≤ 100 := by rw [← hN]; exact Nat.le_trans (List.length_filter_le _ _) hl1
  clear e0 hE hdA hN hL
  go_enter Tryz.func102, Tryz.ntmps102
  go_wp2_with (first | (go_at_call 106; (with_reducible refine hro.mono ?_); rintro e u ⟨rfl, hu⟩; obtain rfl := hu.symm) | (go_at_call 30; (with_reducible refine hrm.mono ?_); rintro r u1 ⟨rfl, ad1, cap1, n1, r1, t1⟩; obtain ⟨hN1, hM1⟩ := h.rem n1 r1 t1))
  obtain ⟨A1, hA1⟩ : ∃ A1, { A with pa := ad1, pc := cap1 } = A1 := ⟨_, rfl⟩
  rw [hA1] at hN1 hM1
  obtain ⟨s1, hs1⟩ : ∃ s1, { s with ev := s.ev ++ [E] } = s1 := ⟨_, rfl⟩
  have HS : Hid (dAsk s = s1) := HA.out.trans hs1
  have es : s1.s = s.s ∧ s1.n = s.n ∧ s1.l = s.l := by rw [← hs1]; exact ⟨rfl, rfl, rfl⟩
  rw [hs1] at hN1
  have hob := hN1.obj
  rw [es.1, es.2.1] at hob
  have hbk := hN1.bk
  rw [es.2.2] at hbk
  clear hrm hro c9 n1 r1 t1 hA1 hs1 HA
  rename_i hK
  refine wp_region_any hmx ?_
  refine wpAny_tabG (G := ((Option Addr × Nat) × Nat)) (fun g i__ => ([(.pointer (some ⟨x, 0, none⟩)), (.pointer (some ⟨x, 0, none⟩)), (.pointer (some ⟨x, 3, none⟩)), (.int .i64 (s.s : Int)), (.int .i64 s.t.ro), (.pointer (some ⟨x, 0, none⟩)), (.pointer (some ⟨x, 0, none⟩)), (.pointer (some ⟨x, 4, none⟩)), (.pointer (some ⟨A1.bp, 0, none⟩)), (.slice g.1.1 N.length g.1.2), (.agg #[.int .i64 (s.s : Int), .int .i64 s.t.ro, .slice g.1.1 N.length g.1.2]), (.pointer (some ⟨g.2, 0, none⟩)), undef] : List Value).getD i__ undef) (fun g d V => Jq u1 (s.s : Int) s.t.ro N g (d 9) (d 11) (d 12) V) (by kernel_rfl) (((none, 0), 0)) (show Jq u1 (s.s : Int) s.t.ro N ((none, 0), 0) false false false _ from ⟨(Below.refl _ _).drew, fun e => (by cases e), fun e => (by cases e)⟩) ?step9 ?fin9
  case step9 =>
    intro i o ho
    have hi : i < 13 := getElem?_lt ho
    match i, hi, ho with
    | 0, _, ho =>
      cases ho
      refine stepG_of (fun g d hdep => ?_)
      exact step_move rfl trivial _ rfl (by kernel_rfl)
    | 1, _, ho =>
      cases ho
      refine stepG_of (fun g d hdep => ?_)
      exact step_nilCheck rfl trivial _ _ _ rfl rfl rfl
    | 2, _, ho =>
      cases ho
      refine stepG_of (fun g d hdep => ?_)
      exact step_fieldAddr rfl trivial _ _ _ _ rfl rfl (fun v hw => (field_nd v _).2.2.2.1)
    | 3, _, ho =>
      cases ho
      refine stepG_of (fun g d hdep => ?_)
      exact step_load rfl trivial _ _ _ rfl rfl (fun v hw => load_in (hob.carry hw.be).c3)
    | 4, _, ho =>
      cases ho
      refine stepG_of (fun g d hdep => ?_)
      exact step_move rfl trivial _ rfl (by kernel_rfl)
    | 5, _, ho =>
      cases ho
      refine stepG_of (fun g d hdep => ?_)
      exact step_move rfl trivial _ rfl (by kernel_rfl)
    | 6, _, ho =>
      cases ho
      refine stepG_of (fun g d hdep => ?_)
      exact step_nilCheck rfl trivial _ _ _ rfl rfl rfl
    | 7, _, ho =>
      cases ho
      refine stepG_of (fun g d hdep => ?_)
      exact step_fieldAddr rfl trivial _ _ _ _ rfl rfl (fun v hw => (field_nd v _).2.2.2.2.1)
    | 8, _, ho =>
      cases ho
      refine stepG_of (fun g d hdep => ?_)
      exact step_load rfl trivial _ _ _ rfl rfl (fun v hw => load_bk0 (hob.carry hw.be).c4)
    | 9, _, ho =>
      cases ho
      exact stepG_call rfl (fun _ => trivial) 170 _ _ (fun _ => [.pointer (some ⟨A1.bp, 0, none⟩)]) rfl (fun g => by kernel_rfl) (enters_of Tryz.func170 (by kernel_rfl) rfl) (fun g d V hJ hun hdep hcl => (ride_any (hbk.carry hJ.be) hl0 hl1).mono (by have h12 : d 12 = false := (by cases h : d 12 with | false => rfl | true => exact absurd (hcl 12 _ rfl h 9 (by kernel_rfl)) (by rw [hun]; simp)); have hJ' := hJ; rw [hun, h12] at hJ'; rintro e V' ⟨v, rfl, hm, hb⟩; rw [HN.out] at hm; obtain ⟨a, c, rfl, hrow⟩ := hm.form; refine ⟨((a, c), g.2), rfl, (fun j hj => match j, hj with | 9, hj => (by rw [hj] at hun; cases hun) | 10, hj => absurd ((hcl 10 _ rfl hj 9 (by kernel_rfl))) (by rw [hun]; simp) | 0, _ => rfl | 1, _ => rfl | 2, _ => rfl | 3, _ => rfl | 4, _ => rfl | 5, _ => rfl | 6, _ => rfl | 7, _ => rfl | 8, _ => rfl | 11, _ => rfl | 12, _ => rfl | _ + 13, _ => rfl), ?_⟩; show Jq u1 (s.s : Int) s.t.ro N _ true (d 11) (d 12) V'; rw [h12]; exact ⟨bel2 hJ'.be hb, fun _ => row_base hrow hJ'.be.size, fun e => ⟨(hJ'.bx e).1, (hb.block _ (lt_at (hJ'.bx e).2)).trans (hJ'.bx e).2⟩⟩))
    | 10, _, ho =>
      cases ho
      refine stepG_of (fun g d hdep => ?_)
      exact step_bld3 rfl trivial _ _ _ _ _ _ _ (.int .i64 (s.s : Int)) (.int .i64 s.t.ro) (.slice g.1.1 N.length g.1.2) rfl rfl rfl rfl (fun v hw => bld_Q _ _ _ _ _ v)
    | 11, _, ho =>
      cases ho
      exact stepG_newT rfl rfl _ _ rfl run_allocQ (fun g d V hJ hun hcl => by have h12 : d 12 = false := (by cases h : d 12 with | false => rfl | true => exact absurd (hcl 12 _ rfl h 11 (by kernel_rfl)) (by rw [hun]; simp)); have hJ' := hJ; rw [hun, h12] at hJ'; refine ⟨(g.1, V.heap.size), (fun j hj => match j, hj with | 11, hj => (by rw [hj] at hun; cases hun)  | 0, _ => rfl | 1, _ => rfl | 2, _ => rfl | 3, _ => rfl | 4, _ => rfl | 5, _ => rfl | 6, _ => rfl | 7, _ => rfl | 8, _ => rfl | 9, _ => rfl | 10, _ => rfl | 12, _ => rfl | _ + 13, _ => rfl), rfl, ?_⟩; show Jq u1 (s.s : Int) s.t.ro N _ (d 9) true (d 12) _; rw [h12]; exact ⟨hJ'.be.alloc hJ'.be.size _, fun e => row_below (hJ'.row e) (al1' _ _), fun _ => ⟨hJ'.be.size, new_at rfl⟩⟩)
    | 12, _, ho =>
      cases ho
      exact stepG_store rfl rfl rfl _ _ _ (fun g => .pointer (some ⟨g.2, 0, none⟩)) (fun g => .agg #[.int .i64 (s.s : Int), .int .i64 s.t.ro, .slice g.1.1 N.length g.1.2]) rfl (fun g => by kernel_rfl) (fun g => by kernel_rfl) (fun g d V hJ hun hdep => by have h9 : d 9 = true := hdep 9 (by kernel_rfl); have h11 : d 11 = true := hdep 11 (by kernel_rfl); have hJ' := hJ; rw [h9, h11, hun] at hJ'; obtain ⟨hb0, hb1⟩ := hJ'.bx rfl; obtain ⟨V', hr, h1, h2⟩ := store_Q hb1 ⟨_, _, _, rfl⟩ (s.s : Int) s.t.ro g.1.1 N.length g.1.2; refine ⟨V', hr, ?_⟩; show Jq u1 (s.s : Int) s.t.ro N _ (d 9) (d 11) true V'; rw [h9, h11]; exact ⟨TpZ.young hJ'.be h2 hb0, fun e => row_moved (hJ'.row e) (fun k hk => h2.block k (row_lt2 (hJ'.row e) k hk).2 (fun e2 => row_type (hJ'.row e) hb1 (by decide) (e2 ▸ hk))), fun _ => ⟨hb0, h1⟩⟩)
  intro g d W hall hW
  first | refine hK _ _ ?_ | refine (‹∀ (a : Act) (w : World), Code.wp Tryz.prog _ _ a w → _›) _ _ ?_ | skip
  simp only [finL, List.getD_cons_zero, List.getD_cons_succ, Nat.zero_add, Nat.reduceAdd, List.setIfInBounds_toArray, List.set_cons_zero, List.set_cons_succ]
  rw [hall 9 (by decide), hall 11 (by decide), hall 12 (by decide)] at hW
  obtain ⟨⟨ra, rc⟩, qb⟩ := g
  obtain ⟨hq0, hq1⟩ := hW.bx rfl
  have hrow := hW.row rfl
  have hbW := hW.be
  clear hK hall hW
  simp only at hq0 hq1 hrow ⊢
  have HQ : Hid (W.heap[qb]? = some (.cells #[.int .i64 (s.s : Int), .int .i64 s.t.ro, .slice ra N.length rc] 248 (0, 0))) := hq1
  have hqlt := lt_at hq1
  clear hq1
  have cn := (hob.carry hbW).c1
  go_wp2
  obtain ⟨ic, hic, hz0, hz1, hz2⟩ := info_parts infoO
  go_loopw [5, 31] (fun v c wz => ∃ (k : Nat) (l : List OE), c = .int .i64 k ∧ k ≤ s.n ∧ l.length ≤ k ∧ Outs wz W.heap.size v l ∧ Hid (Outs.say l = askTo k s.s L) ∧ Below W.heap.size W wz) (fun _ c _ => s.n - vnat c)
  case atStart => exact ⟨0, [], rfl, Nat.zero_le _, Nat.zero_le _, Outs.nil _ _, rfl, Below.refl _ _⟩
  case round =>
    obtain ⟨k, l, rfl, hk, hll, ho, HO, hb⟩ := hrel
    by_cases hkn : k < s.n
    · have hki : (k : Int) < (s.n : Int) := by omega
      have hobr := hob.carry (bel2 hbW hb)
      have c3 := hobr.c3
      by_cases hks : k = s.s
      · have hke : ((k : Int) != (s.s : Int)) = false := by rw [hks]; simp
        have HO2 : Hid (Outs.say l = askTo (k + 1) s.s L) := by show _ = _; rw [askTo_succ, if_pos hks]; exact HO.out
        clear hks
        go_wp2
        go_roundw
        case rel => exact ⟨k + 1, l, by simp, by omega, by omega, ho, HO2, hb⟩
        case measure => simp [vnat]; omega
      · have hke : ((k : Int) != (s.s : Int)) = true := by simp; omega
        have hqr := (hb.block _ hqlt).trans HQ.out
        have d0 : wr.cell? ⟨qb, 0, none⟩ = some (.int .i64 (s.s : Int)) := (cell_at hqr 0).trans rfl
        have d1 : wr.cell? ⟨qb, 1, none⟩ = some (.int .i64 s.t.ro) := (cell_at hqr 1).trans rfl
        have d2 : wr.cell? ⟨qb, 2, none⟩ = some (.slice ra N.length rc) := (cell_at hqr 2).trans rfl
        have hsd := sendQ hobr (k : Int) (s.s : Int) s.t.ro ra rc N (RdN.ofRow (row_below hrow hb)) (by omega)
        have e7 : fb7 1 (s.n : Int) (s.s : Int) s.t.ro 0 N = L := by rw [← HL.out, dAskB, HN.out]
        rw [e7] at hsd
        have HK : Hid (¬ k = s.s) := hks
        clear hks e7 hqr
        go_wp2_with (first | (go_at_call 171; (with_reducible refine hsd.mono ?_); rintro r u2 ⟨a2, c2, rfl, hd2, hb2⟩) | (at_builtin; refine wpList_append_own_at _ rfl _ _ 87 rfl W.heap.size 94 ic _ 2 32 Tryz.underlying87 hic hz0 hz1 hz2 rfl (by decide) _ l.length (ocs l) rfl (row_below (row_below ho.row hb2) (al1' _ _)) ⟨u2.heap.size, 0, none⟩ 1 1 [_, _] rfl rfl (rowN _ #[_, _] _) (by simp [Value.oneCell']) (by unfold maxLen; omega) (by omega) (by have := hb.size; have := hb2.size; simp; omega) ?_; intro v' w2 hown' hgrow _ hob2))
        have hOO : Outs w2 W.heap.size v' (l ++ [⟨(k : Int), a2, c2, L⟩]) := ho.snoc (o := ⟨(k : Int), a2, c2, L⟩) (bel2 hb2 (al1' _ _)) (row_below hd2 (al1' _ _)) hb.size hown' hgrow
        have HO2 : Hid (Outs.say (l ++ [⟨(k : Int), a2, c2, L⟩]) = askTo (k + 1) s.s L) := by show _ = _; rw [askTo_succ, if_neg HK.out, ← HO.out]; simp [Outs.say]
        have hb3 : Below W.heap.size W w2 := (hb.trans ((bel2 hb2 (al1' _ _)).mono hb.size)).grown hgrow (by have := hb.size; have := hb2.size; simp; omega) (fun q e => own_block ho.row q e)
        clear hsd
        go_roundw
        case rel => exact ⟨k + 1, _, by simp, by omega, by simp; omega, hOO, HO2, hb3⟩
        case measure => simp [vnat]; omega
    · have hki : ¬ (k : Int) < (s.n : Int) := by omega
      obtain rfl : k = s.n := by omega
      go_wp2
      go_ret
      refine ⟨_, rfl, l, ho.base (Nat.le_trans hM1.size hbW.size), HO.out, A1, ?_, hM1.trans (Mv.of _ _ (bel2 hbW hb))⟩
      rw [HS.out]
      exact hN1.carry (bel2 hbW hb)
end Go.Proofs.YtklnfbanfgdgcaaGreatDoor
namespace Go.Proofs.YtklnfbanfgdgcaaGreatDoor
open Go.RowKit Go.Shelf Go.Lib
attribute [local go_sem] Oper.semAt_some

end Go.Proofs.YtklnfbanfgdgcaaGreatDoor
