/- node's Hear: what it answers. -/
import Derived.Test.YtklnfbanfgdgcaaGreatDoorJnJ35
import Derived.Test.YtklnfbanfgdgcaaGreatDoorJnJ32
import Derived.Test.YtklnfbanfgdgcaaGreatDoorJnJ33
import Derived.Test.YtklnfbanfgdgcaaGreatDoorJnJ25
set_option maxHeartbeats 40000000
set_option maxRecDepth 100000
set_option linter.unusedVariables false
namespace Go.Proofs.YtklnfbanfgdgcaaGreatDoor
open Go.RowKit Go.Shelf Go.Lib
attribute [local go_sem] Oper.semAt_some

theorem up_yes {w : World} {x : Nat} {q : Addr} {n f s : Int} {vk : Option Addr} {H : Nat} {vt : Option Addr} {vp : Value} (h : Nb w x (some q) n f s vk H vt vp) : Calls Tryz.prog 52 #[.pointer (some ⟨x, 0, none⟩)] w fun r w' => r = .returned (.bool true) ∧ w' = w := (up_any h).mono fun _ _ h => ⟨by simpa using h.1, h.2⟩
section
variable {w W : World} {base x : Nat} {A : NA} {s : Ns}
end
end Go.Proofs.YtklnfbanfgdgcaaGreatDoor
namespace Go.Proofs.YtklnfbanfgdgcaaGreatDoor
open Go.RowKit Go.Shelf Go.Lib
attribute [local go_sem] Oper.semAt_some
set_option linter.unusedVariables false

/-- What a Poll tells, with the queries. -/
def PlO (w : World) (base x : Nat) (A : NA) (L : List (Int × List Nat)) (E : Int) (s2 : Ns) (r : Ending) (w' : World) : Prop := ∃ v l A', r = .returned (.tuple #[v, .int .i64 E]) ∧ Outs w' w.heap.size v l ∧ Outs.say l = L ∧ Nd w' base x A' s2 ∧ Mv x A A' w w'
section
variable {w W : World} {base x : Nat} {A : NA} {s : Ns}
theorem Outs.form {W : World} {b : Nat} {v : Value} {l : List OE} (h : Outs W b v l) : ∃ a n c, v = .slice a n c := by
  rcases own_form h.row with ⟨e1, e2⟩ | ⟨g, c, e1, _⟩
  · exact ⟨_, _, _, e1⟩
  · exact ⟨_, _, _, e1⟩
set_option maxHeartbeats 4000000 in
theorem poll_wait (h : Nd w base x A s) (hrd : rdy s.t = false) (hl0 : 0 < s.l.length) (hl1 : s.l.length ≤ 100) (hev : s.ev.length ≤ 1000000) (hn : s.n ≤ 100) :
    Calls Tryz.prog 18 #[.pointer (some ⟨x, 0, none⟩)] w (PlO w base x A (askTo s.n s.s (dAskB s)) 170 (dAsk s)) := by
  have hup := up_yes h.obj
  have c9 := h.obj.c9
  have hre := ready_any h.ta
  rw [hrd] at hre
  have hak := ask_any h hl0 hl1 hev hn
  go_enter Tryz.func18, Tryz.ntmps18
  go_wp2_with (first | (go_at_call 52; (with_reducible refine hup.mono ?_); rintro r u ⟨rfl, hu⟩; obtain rfl := hu.symm) | (go_at_call 101; (with_reducible refine hre.mono ?_); rintro r u ⟨rfl, hu⟩; obtain rfl := hu.symm) | (go_at_call 102; (with_reducible refine hak.mono ?_); rintro r u ⟨v, l, A', rfl, ho, hs, hN, hM⟩; obtain ⟨va, vn, vc, rfl⟩ := ho.form))
  go_ret2
  exact ⟨_, l, A', rfl, ho, hs, hN, hM⟩
end
end Go.Proofs.YtklnfbanfgdgcaaGreatDoor
namespace Go.Proofs.YtklnfbanfgdgcaaGreatDoor
open Go.RowKit Go.Shelf Go.Lib
attribute [local go_sem] Oper.semAt_some
set_option linter.unusedVariables false

/-- What is seen of a node. -/
structure Si where
  up : Bool
  li : Int
  ro : Int
  ta : Int
  su : Nat
  he : Nat
  re : Nat
  l : List N3
def siC (z : Si) (v : Value) : Array Value := #[.bool z.up, .int .i64 z.li, .int .i64 z.ro, .int .i64 z.ta, .int .u32 (wd z.su 0 : Nat), .int .u32 (wd z.su 1 : Nat), .int .u32 (wd z.su 2 : Nat), .int .u32 (wd z.su 3 : Nat), .int .u32 (wd z.he 0 : Nat), .int .u32 (wd z.he 1 : Nat), .int .u32 (wd z.he 2 : Nat), .int .u32 (wd z.he 3 : Nat), .int .u32 (wd z.re 0 : Nat), .int .u32 (wd z.re 1 : Nat), .int .u32 (wd z.re 2 : Nat), .int .u32 (wd z.re 3 : Nat), v]
def siZ : Array Value := #[.bool false, .int .i64 0, .int .i64 0, .int .i64 0, .int .u32 0, .int .u32 0, .int .u32 0, .int .u32 0, .int .u32 0, .int .u32 0, .int .u32 0, .int .u32 0, .int .u32 0, .int .u32 0, .int .u32 0, .int .u32 0, .slice none 0 0]
def dSi (s : Ns) : Si := ⟨true, s.b.r.li, s.t.ro, s.b.ta, sus s.l, s.H, s.t.reps, s.l⟩
theorem infoSi : (Tryz.prog.info? 91).map (·.size) = some 17 := by kernel_rfl
theorem bld_Si (a b c : Int) (S H R : Nat) (ad : Option Addr) (m k : Nat) (w : World) : (Instr.build 91 #[(0, .bool true), (1, .int .i64 a), (2, .int .i64 b), (3, .int .i64 c), (4, sv S), (5, sv H), (6, sv R), (7, .slice ad m k)]).run Tryz.prog w = .ok (.agg (siC ⟨true, a, b, c, S, H, R, []⟩ (.slice ad m k))) w := by unfold sv siC; go_simp
structure Jv (w u : World) (s : Ns) (g : Option Addr × Nat) (d33 d35 : Bool) (V : World) : Prop where
  be : Below u.heap.size u V ∨ d35 = true
  b0 : Below w.heap.size w V
  bx : V.heap[w.heap.size]? = some (.cells (if d35 = true then siC (dSi s) (.slice g.1 s.l.length g.2) else siZ) 91 (0, 0))
  row : d33 = true → V.ownsRow u.heap.size 185 3 (.slice g.1 s.l.length g.2) s.l.length (fl s.l)
theorem retSi {f : Func} {p : Tmp} {R : Ending → World → Prop} {a : Act} {w : World} {b : Nat} {C : Array Value} (hres : f.results = #[.cell p 91]) (hp : a.tmps.getD p undef = .pointer (some ⟨b, 0, none⟩)) (hd : a.defers = []) (h : w.heap[b]? = some (.cells C 91 (0, 0))) (hC : C.size = 17) (hR : R (.returned (.agg C)) w) : bodyPost Tryz.prog f R .ret a w :=
  bodyPost_ret (results_cell_row hres a.tmps w b _ _ (0, 0) _ hp h Tryz.underlying91 rfl (by rw [infoSi, hC])) hd hR
section
variable {w W : World} {base x : Nat} {A : NA} {s : Ns}
set_option maxHeartbeats 8000000 in
set_option maxRecDepth 100000 in
theorem sight_any (h : Nd w base x A s) (hl0 : 0 < s.l.length) (hl1 : s.l.length ≤ 100) (hbo : Bok s.l) :
    Calls Tryz.prog 19 #[.pointer (some ⟨x, 0, none⟩)] w fun r w' => ∃ a c, r = .returned (.agg (siC (dSi s) (.slice a s.l.length c))) ∧ w'.ownsRow w.heap.size 185 3 (.slice a s.l.length c) s.l.length (fl s.l) ∧ Below w.heap.size w w' := by
  have hmx : Tryz.prog.follows .mixedOrders = true := by kernel_rfl
  obtain ⟨w1, hw1⟩ : ∃ w1, w.alloc (.cells siZ 91) = w1 := ⟨_, rfl⟩
  have hb1 : Below w.heap.size w w1 := by rw [← hw1]; exact al1' _ _
  have g1 : w1.heap[w.heap.size]? = some (.cells siZ 91 (0, 0)) := by rw [← hw1]; exact new_at rfl
  unfold siZ at hw1
  have hN1 := h.carry hb1
  have hup := up_yes hN1.obj
  have hwl : w.heap.size < w1.heap.size := lt_at g1
  go_enter Tryz.func19, Tryz.ntmps19
  go_wp2_with (go_at_call 52; (with_reducible refine hup.mono ?_); rintro r u ⟨rfl, hu⟩; obtain rfl := hu.symm)
  rename_i hK
  refine wp_region_any hmx ?_
  refine wpAny_tabG (G := (Option Addr × Nat)) (fun g i__ => ([(.pointer (some ⟨x, 0, none⟩)), (.pointer (some ⟨x, 0, none⟩)), (.pointer (some ⟨x, 0, none⟩)), (.pointer (some ⟨A.q, 0, none⟩)), (.int .i64 s.b.r.li), (.pointer (some ⟨x, 0, none⟩)), (.pointer (some ⟨x, 0, none⟩)), (.pointer (some ⟨x, 9, none⟩)), (.pointer (some ⟨A.tq, 0, none⟩)), (.int .i64 s.t.ro), (.pointer (some ⟨x, 0, none⟩)), (.pointer (some ⟨x, 0, none⟩)), (.pointer (some ⟨x, 0, none⟩)), (.pointer (some ⟨A.q, 0, none⟩)), (.int .i64 s.b.ta), (.pointer (some ⟨x, 0, none⟩)), (.pointer (some ⟨x, 0, none⟩)), (.pointer (some ⟨x, 4, none⟩)), (.pointer (some ⟨A.bp, 0, none⟩)), (sv (sus s.l)), (.pointer (some ⟨x, 0, none⟩)), (.pointer (some ⟨x, 0, none⟩)), (.pointer (some ⟨x, 5, none⟩)), (sv s.H), (.pointer (some ⟨x, 0, none⟩)), (.pointer (some ⟨x, 0, none⟩)), (.pointer (some ⟨x, 9, none⟩)), (.pointer (some ⟨A.tq, 0, none⟩)), (sv s.t.reps), (.pointer (some ⟨x, 0, none⟩)), (.pointer (some ⟨x, 0, none⟩)), (.pointer (some ⟨x, 4, none⟩)), (.pointer (some ⟨A.bp, 0, none⟩)), (.slice g.1 s.l.length g.2), (.agg (siC (dSi s) (.slice g.1 s.l.length g.2))), undef] : List Value).getD i__ undef) (fun g d V => Jv w w1 s g (d 33) (d 35) V) (by kernel_rfl) ((none, 0)) (show Jv w w1 s (none, 0) false false _ from ⟨.inl (Below.refl _ _).drew, hb1.drew, g1, fun e => (by cases e)⟩) ?step13 ?fin13
  case step13 =>
    intro i o ho
    have hi : i < 36 := getElem?_lt ho
    match i, hi, ho with
    | 0, _, ho =>
      cases ho
      refine stepG_ofC (fun g d hun hdep hcl => ?_)
      exact step_move rfl trivial _ rfl (by kernel_rfl)
    | 1, _, ho =>
      cases ho
      refine stepG_ofC (fun g d hun hdep hcl => ?_)
      exact step_nilCheck rfl trivial _ _ _ rfl rfl rfl
    | 2, _, ho =>
      cases ho
      refine stepG_ofC (fun g d hun hdep hcl => ?_)
      exact step_fieldAddr rfl trivial _ _ _ _ rfl rfl (fun v hw => (field_nd v _).1)
    | 3, _, ho =>
      cases ho
      refine stepG_ofC (fun g d hun hdep hcl => ?_)
      exact step_load rfl trivial _ _ _ rfl rfl (fun v hw => load_bt0 (h.carry hw.b0).obj.c0)
    | 4, _, ho =>
      cases ho
      refine stepG_ofC (fun g d hun hdep hcl => ?_)
      exact step_call rfl trivial 105 _ _ [(.pointer (some ⟨A.q, 0, none⟩))] rfl (by kernel_rfl) (enters_of Tryz.func105 (by kernel_rfl) rfl) (fun v hw => (life_any (h.carry hw.b0).bt).mono (by rintro e w' ⟨rfl, hb⟩; exact ⟨rfl, hw.be.elim (fun q => .inl (bel2 q hb)) .inr, bel2 hw.b0 hb, (hb.block _ (lt_at hw.bx)).trans hw.bx, fun e => row_below (hw.row e) hb⟩))
    | 5, _, ho =>
      cases ho
      refine stepG_ofC (fun g d hun hdep hcl => ?_)
      exact step_move rfl trivial _ rfl (by kernel_rfl)
    | 6, _, ho =>
      cases ho
      refine stepG_ofC (fun g d hun hdep hcl => ?_)
      exact step_nilCheck rfl trivial _ _ _ rfl rfl rfl
    | 7, _, ho =>
      cases ho
      refine stepG_ofC (fun g d hun hdep hcl => ?_)
      exact step_fieldAddr rfl trivial _ _ _ _ rfl rfl (fun v hw => (field_nd v _).2.2.2.2.2.2.1)
    | 8, _, ho =>
      cases ho
      refine stepG_ofC (fun g d hun hdep hcl => ?_)
      exact step_load rfl trivial _ _ _ rfl rfl (fun v hw => load_ta0 (h.carry hw.b0).obj.c9)
    | 9, _, ho =>
      cases ho
      refine stepG_ofC (fun g d hun hdep hcl => ?_)
      exact step_call rfl trivial 106 _ _ [(.pointer (some ⟨A.tq, 0, none⟩))] rfl (by kernel_rfl) (enters_of Tryz.func106 (by kernel_rfl) rfl) (fun v hw => (tround_any (h.carry hw.b0).ta).mono (by rintro e w' ⟨rfl, rfl⟩; exact ⟨rfl, hw⟩))
    | 10, _, ho =>
      cases ho
      refine stepG_ofC (fun g d hun hdep hcl => ?_)
      exact step_move rfl trivial _ rfl (by kernel_rfl)
    | 11, _, ho =>
      cases ho
      refine stepG_ofC (fun g d hun hdep hcl => ?_)
      exact step_nilCheck rfl trivial _ _ _ rfl rfl rfl
    | 12, _, ho =>
      cases ho
      refine stepG_ofC (fun g d hun hdep hcl => ?_)
      exact step_fieldAddr rfl trivial _ _ _ _ rfl rfl (fun v hw => (field_nd v _).1)
    | 13, _, ho =>
      cases ho
      refine stepG_ofC (fun g d hun hdep hcl => ?_)
      exact step_load rfl trivial _ _ _ rfl rfl (fun v hw => load_bt0 (h.carry hw.b0).obj.c0)
    | 14, _, ho =>
      cases ho
      refine stepG_ofC (fun g d hun hdep hcl => ?_)
      exact step_call rfl trivial 27 _ _ [(.pointer (some ⟨A.q, 0, none⟩))] rfl (by kernel_rfl) (enters_of Tryz.func27 (by kernel_rfl) rfl) (fun v hw => (btag_any (h.carry hw.b0).bt).mono (by rintro e w' ⟨rfl, rfl⟩; exact ⟨rfl, hw⟩))
    | 15, _, ho =>
      cases ho
      refine stepG_ofC (fun g d hun hdep hcl => ?_)
      exact step_move rfl trivial _ rfl (by kernel_rfl)
    | 16, _, ho =>
      cases ho
      refine stepG_ofC (fun g d hun hdep hcl => ?_)
      exact step_nilCheck rfl trivial _ _ _ rfl rfl rfl
    | 17, _, ho =>
      cases ho
      refine stepG_ofC (fun g d hun hdep hcl => ?_)
      exact step_fieldAddr rfl trivial _ _ _ _ rfl rfl (fun v hw => (field_nd v _).2.2.2.2.1)
    | 18, _, ho =>
      cases ho
      refine stepG_ofC (fun g d hun hdep hcl => ?_)
      exact step_load rfl trivial _ _ _ rfl rfl (fun v hw => load_bk0 (h.carry hw.b0).obj.c4)
    | 19, _, ho =>
      cases ho
      refine stepG_ofC (fun g d hun hdep hcl => ?_)
      exact step_call rfl trivial 107 _ _ [(.pointer (some ⟨A.bp, 0, none⟩))] rfl (by kernel_rfl) (enters_of Tryz.func107 (by kernel_rfl) rfl) (fun v hw => (sus_any (h.carry hw.b0).bk hl0 hl1 hbo).mono (by rintro e w' ⟨rfl, hb⟩; exact ⟨rfl, hw.be.elim (fun q => .inl (bel2 q hb)) .inr, bel2 hw.b0 hb, (hb.block _ (lt_at hw.bx)).trans hw.bx, fun e => row_below (hw.row e) hb⟩))
    | 20, _, ho =>
      cases ho
      refine stepG_ofC (fun g d hun hdep hcl => ?_)
      exact step_move rfl trivial _ rfl (by kernel_rfl)
    | 21, _, ho =>
      cases ho
      refine stepG_ofC (fun g d hun hdep hcl => ?_)
      exact step_nilCheck rfl trivial _ _ _ rfl rfl rfl
    | 22, _, ho =>
      cases ho
      refine stepG_ofC (fun g d hun hdep hcl => ?_)
      exact step_fieldAddr rfl trivial _ _ _ _ rfl rfl (fun v hw => (field_nd v _).2.2.2.2.2.1)
    | 23, _, ho =>
      cases ho
      refine stepG_ofC (fun g d hun hdep hcl => ?_)
      exact step_load rfl trivial _ _ _ rfl rfl (fun v hw => load_hd (h.carry hw.b0).obj.c5)
    | 24, _, ho =>
      cases ho
      refine stepG_ofC (fun g d hun hdep hcl => ?_)
      exact step_move rfl trivial _ rfl (by kernel_rfl)
    | 25, _, ho =>
      cases ho
      refine stepG_ofC (fun g d hun hdep hcl => ?_)
      exact step_nilCheck rfl trivial _ _ _ rfl rfl rfl
    | 26, _, ho =>
      cases ho
      refine stepG_ofC (fun g d hun hdep hcl => ?_)
      exact step_fieldAddr rfl trivial _ _ _ _ rfl rfl (fun v hw => (field_nd v _).2.2.2.2.2.2.1)
    | 27, _, ho =>
      cases ho
      refine stepG_ofC (fun g d hun hdep hcl => ?_)
      exact step_load rfl trivial _ _ _ rfl rfl (fun v hw => load_ta0 (h.carry hw.b0).obj.c9)
    | 28, _, ho =>
      cases ho
      refine stepG_ofC (fun g d hun hdep hcl => ?_)
      exact step_call rfl trivial 108 _ _ [(.pointer (some ⟨A.tq, 0, none⟩))] rfl (by kernel_rfl) (enters_of Tryz.func108 (by kernel_rfl) rfl) (fun v hw => (reps_any (h.carry hw.b0).ta).mono (by rintro e w' ⟨rfl, hb⟩; exact ⟨rfl, hw.be.elim (fun q => .inl (bel2 q hb)) .inr, bel2 hw.b0 hb, (hb.block _ (lt_at hw.bx)).trans hw.bx, fun e => row_below (hw.row e) hb⟩))
    | 29, _, ho =>
      cases ho
      refine stepG_ofC (fun g d hun hdep hcl => ?_)
      exact step_move rfl trivial _ rfl (by kernel_rfl)
    | 30, _, ho =>
      cases ho
      refine stepG_ofC (fun g d hun hdep hcl => ?_)
      exact step_nilCheck rfl trivial _ _ _ rfl rfl rfl
    | 31, _, ho =>
      cases ho
      refine stepG_ofC (fun g d hun hdep hcl => ?_)
      exact step_fieldAddr rfl trivial _ _ _ _ rfl rfl (fun v hw => (field_nd v _).2.2.2.2.1)
    | 32, _, ho =>
      cases ho
      refine stepG_ofC (fun g d hun hdep hcl => ?_)
      exact step_load rfl trivial _ _ _ rfl rfl (fun v hw => load_bk0 (h.carry hw.b0).obj.c4)
    | 33, _, ho =>
      cases ho
      exact stepG_call rfl (fun _ => trivial) 109 _ _ (fun _ => [.pointer (some ⟨A.bp, 0, none⟩)]) rfl (fun g => by kernel_rfl) (enters_of Tryz.func109 (by kernel_rfl) rfl) (fun g d V hJ hun hdep hcl => (blist_any (h.carry hJ.b0).bk hl0 hl1).mono (by have h35 : d 35 = false := (by cases h : d 35 with | false => rfl | true => exact absurd (hcl 35 _ rfl h 33 (by kernel_rfl)) (by rw [hun]; simp)); have hJ' := hJ; rw [hun, h35] at hJ'; rintro e V' ⟨v, rfl, hm, hb⟩; rw [filter_all] at hm; obtain ⟨a, c, rfl, hrow⟩ := hm.form; have hbe : Below w1.heap.size w1 V := (hJ'.be).elim id (fun e => (by cases e)); refine ⟨(a, c), rfl, (fun j hj => match j, hj with | 33, hj => (by rw [hj] at hun; cases hun) | 34, hj => absurd ((hcl 34 _ rfl hj 33 (by kernel_rfl))) (by rw [hun]; simp) | 0, _ => rfl | 1, _ => rfl | 2, _ => rfl | 3, _ => rfl | 4, _ => rfl | 5, _ => rfl | 6, _ => rfl | 7, _ => rfl | 8, _ => rfl | 9, _ => rfl | 10, _ => rfl | 11, _ => rfl | 12, _ => rfl | 13, _ => rfl | 14, _ => rfl | 15, _ => rfl | 16, _ => rfl | 17, _ => rfl | 18, _ => rfl | 19, _ => rfl | 20, _ => rfl | 21, _ => rfl | 22, _ => rfl | 23, _ => rfl | 24, _ => rfl | 25, _ => rfl | 26, _ => rfl | 27, _ => rfl | 28, _ => rfl | 29, _ => rfl | 30, _ => rfl | 31, _ => rfl | 32, _ => rfl | 35, _ => rfl | _ + 36, _ => rfl), ?_⟩; show Jv w w1 s _ true (d 35) V'; rw [h35]; exact ⟨.inl (bel2 hbe hb), bel2 hJ'.b0 hb, (hb.block _ (lt_at hJ'.bx)).trans hJ'.bx, fun _ => row_base hrow hbe.size⟩))
    | 34, _, ho =>
      cases ho
      refine stepG_ofC (fun g d hun hdep hcl => ?_)
      exact step_bld8 rfl trivial _ _ _ _ _ _ _ _ _ _ _ _ _ _ _ _ _ (.bool true) (.int .i64 s.b.r.li) (.int .i64 s.t.ro) (.int .i64 s.b.ta) (sv (sus s.l)) (sv s.H) (sv s.t.reps) (.slice g.1 s.l.length g.2) rfl rfl rfl rfl rfl rfl rfl rfl rfl (fun v hw => bld_Si _ _ _ _ _ _ _ _ _ v)
    | 35, _, ho =>
      cases ho
      exact stepG_store rfl rfl rfl _ _ _ (fun g => .pointer (some ⟨w.heap.size, 0, none⟩)) (fun g => .agg (siC (dSi s) (.slice g.1 s.l.length g.2))) rfl (fun g => by kernel_rfl) (fun g => by kernel_rfl) (fun g d V hJ hun hdep => by have h33 : d 33 = true := hdep 33 (by kernel_rfl); have hJ' := hJ; rw [h33, hun] at hJ'; obtain ⟨V', hr, h1, h2⟩ := store_whole hJ'.bx (siC (dSi s) (.slice g.1 s.l.length g.2)).toList infoSi rfl (by simp [siC, Value.oneCell']); refine ⟨V', hr, ?_⟩; show Jv w w1 s _ (d 33) true V'; rw [h33]; exact ⟨.inr rfl, TpZ.young hJ'.b0 h2 (Nat.le_refl _), h1, fun e => row_moved (hJ'.row e) (fun k hk => h2.block k (row_lt2 (hJ'.row e) k hk).2 (fun e2 => row_type (hJ'.row e) hJ'.bx (by decide) (e2 ▸ hk)))⟩)
  intro g d W hall hW
  first | refine hK _ _ ?_ | refine (‹∀ (a : Act) (w : World), Code.wp Tryz.prog _ _ a w → _›) _ _ ?_ | skip
  simp only [finL, List.getD_cons_zero, List.getD_cons_succ, Nat.zero_add, Nat.reduceAdd, List.setIfInBounds_toArray, List.set_cons_zero, List.set_cons_succ]
  rw [hall 33 (by decide), hall 35 (by decide)] at hW
  go_wp2
  refine retSi rfl rfl rfl hW.bx rfl ⟨g.1, g.2, rfl, row_base (hW.row rfl) hb1.size, hW.b0⟩
end
end Go.Proofs.YtklnfbanfgdgcaaGreatDoor
namespace Go.Proofs.YtklnfbanfgdgcaaGreatDoor
open Go.RowKit Go.Shelf Go.Lib
attribute [local go_sem] Oper.semAt_some
set_option linter.unusedVariables false

theorem dO0 : dO d0 = ⟨1, 0, (dOp d0).d, ⟨⟨1, 16, 4⟩, 1, 0⟩⟩ := by
  obtain ⟨h1, h2, h3, h4, h5, h6⟩ := op0
  unfold dO dNx
  rw [h2, if_neg (by rw [h4]; decide), if_neg (by decide), if_neg (by decide)]
  rfl
/-- A node that begins on a new disk. -/
def s0 (n f s : Nat) : Ns := dOpen n f s d0
theorem wthB_of {N n : Nat} (h : n ≤ 100) (hN : N < 2 ^ n) : wthB N (n : Int) = true := by
  unfold wthB
  have e : topW (n : Int) = n := by unfold topW; omega
  rw [e, Nat.mod_eq_of_lt hN]
  simp
theorem fullN_lt (n : Nat) : fullN n < 2 ^ n := by
  unfold fullN
  have := Nat.pos_of_ne_zero (show 2 ^ n ≠ 0 by simp)
  omega
theorem wthB_full (n : Nat) (h : n ≤ 100) : wthB (fullN n) (n : Int) = true := wthB_of h (fullN_lt n)
theorem nw0 {n f s : Nat} (hn1 : 1 ≤ n) (hn2 : n ≤ 100) (hfn : f < n) (hsn : s < n) : nwE (n : Int) (f : Int) (s : Int) 1 (fullN n) = 0 := by
  unfold nwE
  rw [if_neg (by omega), if_neg (by unfold isN; simp; omega), if_neg (by omega), if_neg (by rw [wthB_full n hn2]; simp)]
section
variable {w W : World} {base x : Nat} {A : NA} {s : Ns}
theorem nopen0 {p : Nat} (hD : Dk w p d0) (hpb : base ≤ p) {n f s : Nat} (hn1 : 1 ≤ n) (hn2 : n ≤ 100) (hfn : f < n) (hsn : s < n) :
    Calls Tryz.prog 9 #[.int .i64 (n : Int), .int .i64 (f : Int), .int .i64 (s : Int), .pointer (some ⟨p, 0, none⟩)] w fun r w' => ∃ x A, r = .returned (.tuple #[.pointer (some ⟨x, 0, none⟩), .int .i64 0]) ∧ Nd w' base x A (s0 n f s) ∧ A.p = p ∧ w.heap.size ≤ x ∧ TpZ p w w' := by
  obtain ⟨h1, h2, h3, h4, h5, h6⟩ := op0
  have h7 := dO0
  exact nopen_ok hD hpb Sd0.zero.fz (by decide) (by decide) h1 (by rw [h2]; exact h5.ok) h5.fz (by rw [h3]; decide) (by rw [h3]; decide) (by rw [h7]) (by rw [h7]; decide) hn1 hn2 hfn hsn (by rw [h7]; exact nw0 hn1 hn2 hfn hsn)
/-- A datagram of a row. -/
theorem Outs.at {b g n c k : Nat} {l : List OE} {o : OE} (h : Outs W b (.slice (some ⟨g, 0, none⟩) n c) l) (hk : l[k]? = some o) : W.cell? ⟨g, k * 2, none⟩ = some (.int .i64 o.to) ∧ W.cell? ⟨g, k * 2 + 1, none⟩ = some (.slice o.a o.L.length o.c) := by
  have hlt : k < l.length := (List.getElem?_eq_some_iff.1 hk).1
  have hl := ocs_len l
  have hn : n = l.length := by
    rcases own_form h.row with ⟨e1, e2⟩ | ⟨g', c', e1, _⟩
    · cases e1
    · cases e1; rfl
  subst hn
  have key : ∀ (l : List OE) (k : Nat) (o : OE), l[k]? = some o → (ocs l)[k * 2]? = some (.int .i64 o.to) ∧ (ocs l)[k * 2 + 1]? = some (.slice o.a o.L.length o.c) := by
    intro l
    induction l with
    | nil => intro k o h; simp at h
    | cons y l ih =>
      intro k o h
      have e : ocs (y :: l) = .int .i64 y.to :: .slice y.a y.L.length y.c :: ocs l := by simp [ocs, oc]
      cases k with
      | zero => simp at h; subst h; rw [e]; exact ⟨rfl, rfl⟩
      | succ k =>
        obtain ⟨h1, h2⟩ := ih k o (by simpa using h)
        rw [e, show (k + 1) * 2 = k * 2 + 1 + 1 by omega]
        exact ⟨by simpa using h1, by simpa using h2⟩
  obtain ⟨k1, k2⟩ := key l k o hk
  exact ⟨(h.row.cellAt _ (by omega)).trans k1, (h.row.cellAt _ (by omega)).trans k2⟩
theorem ask3 (L : List Nat) : askTo 3 0 L = [(1, L), (2, L)] := by
  unfold askTo
  rfl
set_option maxHeartbeats 8000000 in
set_option maxRecDepth 100000 in
theorem nalive_any (w : World) : Calls Tryz.prog 5 #[] w fun e w' => e = .returned (.bool true) ∧ Below w.heap.size w w' := by
  have hn := dnew_any w
  have hop : ∀ V, Dk V w.heap.size d0 → Calls Tryz.prog 9 #[.int .i64 3, .int .i64 1, .int .i64 0, .pointer (some ⟨w.heap.size, 0, none⟩)] V fun r w' => ∃ x A, r = .returned (.tuple #[.pointer (some ⟨x, 0, none⟩), .int .i64 0]) ∧ Nd w' w.heap.size x A (s0 3 1 0) ∧ A.p = w.heap.size ∧ V.heap.size ≤ x ∧ TpZ w.heap.size V w' := fun V hV => nopen0 (n := 3) (f := 1) (s := 0) hV (Nat.le_refl _) (by decide) (by decide) (by decide) (by decide)
  have e0 := dO0
  have hl : (s0 3 1 0).l = bk0 3 0 0 := by unfold s0 dOpen; rw [e0]
  have ht : (s0 3 1 0).t = nwT 3 1 0 1 (fullN 3) := by unfold s0 dOpen; rw [e0]; rfl
  have hb : (s0 3 1 0).b = ⟨⟨1, 16, 4⟩, 1, 0⟩ := by unfold s0 dOpen; rw [e0]
  have hrd : rdy (s0 3 1 0).t = false := by rw [ht]; rfl
  have hll : (s0 3 1 0).l.length = 3 := by rw [hl]; exact bk0_len _ _ _
  have hbo : Bok (s0 3 1 0).l := by rw [hl]; exact bk0_bok (by decide) (by decide)
  have hev : (s0 3 1 0).ev.length = 1 := rfl
  have HP : ∀ V x A, Nd V w.heap.size x A (s0 3 1 0) → Calls Tryz.prog 18 #[.pointer (some ⟨x, 0, none⟩)] V fun r w' => ∃ g c l o A', r = .returned (.tuple #[.slice (some ⟨g, 0, none⟩) 2 c, .int .i64 170]) ∧ w'.cell? ⟨g, 2, none⟩ = some (.int .i64 2) ∧ g < w'.heap.size ∧ Outs w' V.heap.size (.slice (some ⟨g, 0, none⟩) 2 c) l ∧ l[1]? = some o ∧ Nd w' w.heap.size x A' (dAsk (s0 3 1 0)) ∧ Mv x A A' V w' := fun V x A hN => by
    refine (poll_wait hN hrd (by omega) (by omega) (by omega) (show 3 ≤ 100 by decide)).mono ?_
    rintro r w' ⟨v, l, A', rfl, ho, hs, hN', hM⟩
    have hs' : Outs.say l = [(1, dAskB (s0 3 1 0)), (2, dAskB (s0 3 1 0))] := hs.trans (ask3 _)
    unfold Outs.say at hs'
    obtain ⟨o1, o2, rfl⟩ : ∃ o1 o2, l = [o1, o2] := by
      rcases l with _ | ⟨o1, _ | ⟨o2, _ | ⟨o3, l⟩⟩⟩
      · simp at hs'
      · simp at hs'
      · exact ⟨o1, o2, rfl⟩
      · simp at hs'
    simp only [List.map_cons, List.map_nil, List.cons.injEq, Prod.mk.injEq, and_true] at hs'
    rcases own_form ho.row with ⟨_, e2⟩ | ⟨g, c, e1, h1, h2, _⟩
    · simp at e2
    · subst e1
      have hc := (ho.at (k := 1) (o := o2) rfl).1
      rw [hs'.2.1] at hc
      exact ⟨g, c, [o1, o2], o2, A', rfl, hc, h2, ho, rfl, hN', hM⟩
  have hS1 : dSi (dAsk (s0 3 1 0)) = ⟨true, 1, 1, 0, sus (s0 3 1 0).l, (s0 3 1 0).H, (s0 3 1 0).t.reps, (s0 3 1 0).l⟩ := by
    unfold dSi dAsk
    simp only [hb, ht]
    rfl
  obtain ⟨z, hz⟩ : ∃ z, dSi (dAsk (s0 3 1 0)) = z := ⟨_, rfl⟩
  have hz0 : z.up = true ∧ z.li = 1 ∧ z.ro = 1 := by rw [← hz, hS1]; exact ⟨rfl, rfl, rfl⟩
  have HS : ∀ V x A, Nd V w.heap.size x A (dAsk (s0 3 1 0)) → Calls Tryz.prog 19 #[.pointer (some ⟨x, 0, none⟩)] V fun r w' => ∃ a c, r = .returned (.agg (siC z (.slice a 3 c))) ∧ Below V.heap.size V w' := fun V x A hN => by
    refine (sight_any hN (show 0 < (s0 3 1 0).l.length by omega) (show (s0 3 1 0).l.length ≤ 100 by omega) hbo).mono ?_
    rintro r w' ⟨a, c, rfl, h1, h2⟩
    have e3 : (dAsk (s0 3 1 0)).l.length = 3 := hll
    rw [e3, hz]
    exact ⟨a, c, rfl, h2⟩
  obtain ⟨z1, z2, z3⟩ := hz0
  clear hS1 hz e0 hl ht hb hrd hbo hev hll
  obtain ⟨u0, l0, r0, t0, su, he, re, ll⟩ := z
  dsimp only at z1 z2 z3
  subst z1 z2 z3
  unfold siC at HS
  dsimp only at HS
  go_enter Tryz.func5, Tryz.ntmps5
  go_wp2_with (first
    | (go_at_call 17; (with_reducible refine hn.mono ?_); rintro r u1 ⟨rfl, hD1, hl1, hb1⟩; have hop1 := hop u1 hD1)
    | (go_at_call 9; (with_reducible refine hop1.mono ?_); rintro r u2 ⟨x, A, rfl, hN2, hAp, hx2, ht2⟩; have hP2 := HP u2 x A hN2)
    | (go_at_call 18; (with_reducible refine hP2.mono ?_); rintro r u3 ⟨g, c, l, o, A3, rfl, hc3, hg3, ho3, hl3, hN3, hM3⟩; have hS3 := HS u3 x A3 hN3)
    | (go_at_call 19; (with_reducible refine hS3.mono ?_); rintro r u4 ⟨a4, c4, rfl, hb4⟩; obtain ⟨u5, hu5⟩ : ∃ u5, u4.alloc (.cells #[.bool true, .int .i64 1, .int .i64 1, .int .i64 t0, .int .u32 (wd su 0 : Nat), .int .u32 (wd su 1 : Nat), .int .u32 (wd su 2 : Nat), .int .u32 (wd su 3 : Nat), .int .u32 (wd he 0 : Nat), .int .u32 (wd he 1 : Nat), .int .u32 (wd he 2 : Nat), .int .u32 (wd he 3 : Nat), .int .u32 (wd re 0 : Nat), .int .u32 (wd re 1 : Nat), .int .u32 (wd re 2 : Nat), .int .u32 (wd re 3 : Nat), .slice a4 3 c4] 91) = u5 := ⟨_, rfl⟩; have hb5 : Below u4.heap.size u4 u5 := (by rw [← hu5]; exact al1' _ _); have g5 : u5.heap[u4.heap.size]? = some (.cells #[.bool true, .int .i64 1, .int .i64 1, .int .i64 t0, .int .u32 (wd su 0 : Nat), .int .u32 (wd su 1 : Nat), .int .u32 (wd su 2 : Nat), .int .u32 (wd su 3 : Nat), .int .u32 (wd he 0 : Nat), .int .u32 (wd he 1 : Nat), .int .u32 (wd he 2 : Nat), .int .u32 (wd he 3 : Nat), .int .u32 (wd re 0 : Nat), .int .u32 (wd re 1 : Nat), .int .u32 (wd re 2 : Nat), .int .u32 (wd re 3 : Nat), .slice a4 3 c4] 91 (0, 0)) := (by rw [← hu5]; exact new_at rfl); have e0 : u5.cell? ⟨u4.heap.size, 0, none⟩ = some (.bool true) := (cell_at g5 0).trans rfl; have e1 : u5.cell? ⟨u4.heap.size, 1, none⟩ = some (.int .i64 1) := (cell_at g5 1).trans rfl; have e2 : u5.cell? ⟨u4.heap.size, 2, none⟩ = some (.int .i64 1) := (cell_at g5 2).trans rfl; have e16 : u5.cell? ⟨u4.heap.size, 16, none⟩ = some (.slice a4 3 c4) := (cell_at g5 16).trans rfl; have hgc : u5.cell? ⟨g, 2, none⟩ = some (.int .i64 2) := ((bel2 hb4 hb5).cell (p := ⟨g, 2, none⟩) hg3).trans hc3))
  go_ret
  refine ⟨rfl, ?_⟩
  have q2 := TpZ.young hb1 ht2 (Nat.le_refl _)
  exact (q2.trans (hM3.below hN2)).trans ((bel2 hb4 hb5).mono (Nat.le_trans q2.size hM3.size))
end
end Go.Proofs.YtklnfbanfgdgcaaGreatDoor
