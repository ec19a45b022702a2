/- The book of lists, of notices and events; looks, when a node has been opened: what it answers. -/
import Derived.Test.YtklnfbanfgdgcaaGreatDoorJnJ46
import Derived.Test.YtklnfbanfgdgcaaGreatDoorJnJ47
import Derived.Test.YtklnfbanfgdgcaaGreatDoorJnJ36
import Derived.Test.YtklnfbanfgdgcaaGreatDoorJnJ9
import Derived.Test.YtklnfbanfgdgcaaGreatDoorJnJ37
import Derived.Test.YtklnfbanfgdgcaaGreatDoorJnJ34
import Derived.Test.YtklnfbanfgdgcaaGreatDoorJnJ25
set_option maxHeartbeats 40000000
set_option maxRecDepth 100000
set_option linter.unusedVariables false
namespace Go.Proofs.YtklnfbanfgdgcaaGreatDoor
open Go.RowKit Go.Shelf Go.Lib
attribute [local go_sem] Oper.semAt_some
set_option linter.unusedVariables false

set_option maxHeartbeats 4000000 in
set_option maxRecDepth 100000 in
theorem load_sg9 {W : World} {B : Nat} {li ro ta : Int} {su he re : Nat} {v : Value} (hv : ∃ a n c, v = .slice a n c) (h : W.heap[B]? = some (.cells (sgA li ro ta su he re v) 91 (0, 0))) : (Instr.loadAt 91 (.pointer (some ⟨B, 0, none⟩))).run Tryz.prog W = .ok (.agg (sgA li ro ta su he re v)) W := by
  obtain ⟨a, n, c, rfl⟩ := hv
  have c0 := cell_at h 0
  have c1 := cell_at h 1
  have c2 := cell_at h 2
  have c3 := cell_at h 3
  have c4 := cell_at h 4
  have c5 := cell_at h 5
  have c6 := cell_at h 6
  have c7 := cell_at h 7
  have c8 := cell_at h 8
  have c9 := cell_at h 9
  have c10 := cell_at h 10
  have c11 := cell_at h 11
  have c12 := cell_at h 12
  have c13 := cell_at h 13
  have c14 := cell_at h 14
  have c15 := cell_at h 15
  have c16 := cell_at h 16
  unfold sgA at c0 c1 c2 c3 c4 c5 c6 c7 c8 c9 c10 c11 c12 c13 c14 c15 c16
  simp at c0 c1 c2 c3 c4 c5 c6 c7 c8 c9 c10 c11 c12 c13 c14 c15 c16
  unfold sgA
  go_simp

def nil24 : Array Value := #[.slice none 0 0, .slice none 0 0, .slice none 0 0, .slice none 0 0, .slice none 0 0, .slice none 0 0, .slice none 0 0, .slice none 0 0, .slice none 0 0, .slice none 0 0, .slice none 0 0, .slice none 0 0, .slice none 0 0, .slice none 0 0, .slice none 0 0, .slice none 0 0, .slice none 0 0, .slice none 0 0, .slice none 0 0, .slice none 0 0, .slice none 0 0, .slice none 0 0, .slice none 0 0, .slice none 0 0]
theorem nil24_get (j : Nat) (hj : j < 24) : nil24[j]? = some (.slice none 0 0) := by
  have e : nil24 = Array.replicate 24 (.slice none 0 0) := rfl
  rw [e, Array.getElem?_replicate, if_pos hj]
theorem rdn_of {W : World} {base m cap : Nat} {ad : Option Addr} {l : List N3} (hl : l.length = m) (h : W.ownsRow base 185 3 (.slice ad m cap) m (fl l)) : RdN W ad l := by
  subst hl
  exact RdN.ofRow h
theorem fl_fc (l : List (Int × Int × Int)) : fl l = Kel.fc Kel.cNotices l := by
  induction l with
  | nil => rfl
  | cons x l ih => rw [Kel.fc_cons, ← ih]; rfl
def evT (e : Ev) : Kel.tEvents := (e.k, e.nd, e.li, e.ro, e.ta, e.of, e.du, (wd e.he 0 : Nat), (wd e.he 1 : Nat), (wd e.he 2 : Nat), (wd e.he 3 : Nat), (wd e.un 0 : Nat), (wd e.un 1 : Nat), (wd e.un 2 : Nat), (wd e.un 3 : Nat))
theorem ecs_fc (l : List Ev) : ecs l = Kel.fc Kel.cEvents (l.map evT) := by
  induction l with
  | nil => rfl
  | cons x l ih =>
    have e : ecs (x :: l) = ec x ++ ecs l := by simp [ecs]
    rw [e, List.map_cons, Kel.fc_cons, ← ih]
    rfl
/-- The book with notices. -/
def Bk1 (base bb : Nat) (W : World) : Prop := ∃ uN vN XN yN LN C, Kel.Bb 78 W bb C ∧ C.size = 24 ∧ (∀ j, j < 24 → j ≠ 6 → j ≠ 7 → C[j]? = some (.slice none 0 0)) ∧ C[6]? = some uN ∧ C[7]? = some vN ∧ Kel.Kk Kel.cNotices 3 185 46 base W uN vN XN yN LN
/-- The book with notices and events. -/
def Bk2 (base bb : Nat) (W : World) : Prop := ∃ uN vN XN yN LN uE vE XE yE LE C, Kel.Bb 78 W bb C ∧ C.size = 24 ∧ (∀ j, j < 24 → j ≠ 6 → j ≠ 7 → j ≠ 12 → j ≠ 13 → C[j]? = some (.slice none 0 0)) ∧ C[6]? = some uN ∧ C[7]? = some vN ∧ Kel.Kk Kel.cNotices 3 185 46 base W uN vN XN yN LN ∧ C[12]? = some uE ∧ C[13]? = some vE ∧ Kel.Kk Kel.cEvents 15 121 56 base W uE vE XE yE LE
theorem Bk2.carry {base bb : Nat} {W V : World} (h : Bk2 base bb W) (hb : Below W.heap.size W V) : Bk2 base bb V := by
  obtain ⟨uN, vN, XN, yN, LN, uE, vE, XE, yE, LE, C, h1, h2, h3, h6, h7, h9, h10, h11, h12⟩ := h
  exact ⟨uN, vN, XN, yN, LN, uE, vE, XE, yE, LE, C, h1.carry hb, h2, h3, h6, h7, h9.carry hb, h10, h11, h12.carry hb⟩
theorem fk_tp {bb : Nat} {W V : World} (h : Kel.Fk bb (.slice none 0 0) (.slice none 0 0) W V) : TpZ bb W V := ⟨h.os, h.tape, h.output, h.size, fun k hk hn => h.block k hk hn (by simp [Value.ownBlock]) (by simp [Value.ownBlock])⟩
theorem keepN0 {base bb : Nat} {w : World} (h : Kel.Bb 78 w bb nil24) (hbz : base ≤ w.heap.size) {z : Value} {l : List N3} (hz : w.ownsRow base 185 3 z l.length (fl l)) (hl : l.length ≤ 1000000) : Calls Tryz.prog 47 #[.pointer (some ⟨bb, 0, none⟩), z] w fun e w' => e = .returned (.tuple #[]) ∧ Bk1 base bb w' ∧ TpZ bb w w' := by
  rw [fl_fc] at hz
  refine (Kel.keepNotices_any h (nil24_get 6 (by decide)) (nil24_get 7 (by decide)) Kel.Kk.nil hbz hz hl (fun i g z' hz' _ _ => by simp at hz')).mono ?_
  rintro e w' ⟨rfl, u', v', x', y', L', k1, k2, k3, k4⟩
  exact ⟨rfl, ⟨u', v', x', y', L', _, k1, by rw [Kel.put2_sz]; rfl, fun j hj q6 q7 => by rw [Kel.put2_ne q6 q7]; exact nil24_get j hj, Kel.put2_0 (by decide) _ _, Kel.put2_1 (by decide) _ _, k2⟩, fk_tp k3⟩
theorem keepE1 {base bb : Nat} {w : World} (h : Bk1 base bb w) (hbz : base ≤ w.heap.size) {z : Value} {l : List Ev} (hz : w.ownsRow base 121 15 z l.length (ecs l)) (hl : l.length ≤ 1000000) : Calls Tryz.prog 48 #[.pointer (some ⟨bb, 0, none⟩), z] w fun e w' => e = .returned (.tuple #[]) ∧ Bk2 base bb w' ∧ TpZ bb w w' := by
  obtain ⟨uN, vN, XN, yN, LN, C, h1, h2, h3, h6, h7, h9⟩ := h
  have e1 : l.length = (l.map evT).length := by simp
  rw [ecs_fc, e1] at hz
  have n12 := h3 12 (by decide) (by decide) (by decide)
  have n13 := h3 13 (by decide) (by decide) (by decide)
  refine (Kel.keepEvents_any h1 n12 n13 Kel.Kk.nil hbz hz (by rw [List.length_map]; exact hl) (fun i g z' hz' _ _ => by simp at hz')).mono ?_
  rintro e w' ⟨rfl, u', v', x', y', L', k1, k2, k3, k4⟩
  exact ⟨rfl, ⟨uN, vN, XN, yN, LN, u', v', x', y', L', _, k1, by rw [Kel.put2_sz]; exact h2, fun j hj q6 q7 q12 q13 => by rw [Kel.put2_ne q12 q13]; exact h3 j hj q6 q7, by rw [Kel.put2_ne (by decide) (by decide)]; exact h6, by rw [Kel.put2_ne (by decide) (by decide)]; exact h7, h9.fk k3 h1 (World.ownsRow_nil w base 56 1) (World.ownsRow_nil w base 56 1) (by decide) (by decide) (by decide) (by decide), Kel.put2_0 (by omega) _ _, Kel.put2_1 (by omega) _ _, k2⟩, fk_tp k3⟩
theorem apartNE {base bb : Nat} {w : World} (h : Bk2 base bb w) (hbz : base ≤ w.heap.size) : Calls Tryz.prog 16 #[.pointer (some ⟨bb, 0, none⟩)] w fun e w' => e = .returned (.bool true) ∧ Below base w w' := by
  obtain ⟨uN, vN, XN, yN, LN, uE, vE, XE, yE, LE, C, h1, h2, h3, h6, h7, h9, h10, h11, h12⟩ := h
  exact Kel.apart_any h1 h3 h6 h7 h9 h10 h11 h12 hbz
theorem fld_bo (W : World) (B : Nat) : (Instr.fieldAt 80 (.pointer (some ⟨B, 0, none⟩)) 0).run Tryz.prog W = .ok (.pointer (some ⟨B, 0, none⟩)) W ∧ (Instr.fieldAt 80 (.pointer (some ⟨B, 0, none⟩)) 1).run Tryz.prog W = .ok (.pointer (some ⟨B, 1, none⟩)) W ∧ (Instr.fieldAt 80 (.pointer (some ⟨B, 0, none⟩)) 4).run Tryz.prog W = .ok (.pointer (some ⟨B, 25, none⟩)) W := by
  refine ⟨?_, ?_, ?_⟩ <;> go_simp
theorem fld_si (W : World) (B : Nat) : (Instr.fieldAt 91 (.pointer (some ⟨B, 0, none⟩)) 7).run Tryz.prog W = .ok (.pointer (some ⟨B, 16, none⟩)) W := by go_simp
theorem ld_bk {W : World} {B o : Nat} {a : Option Addr} (h : W.cell? ⟨B, o, none⟩ = some (.pointer a)) : (Instr.loadAt 64 (.pointer (some ⟨B, o, none⟩))).run Tryz.prog W = .ok (.pointer a) W := by go_simp
theorem ld_nd {W : World} {B o : Nat} {a : Option Addr} (h : W.cell? ⟨B, o, none⟩ = some (.pointer a)) : (Instr.loadAt 40 (.pointer (some ⟨B, o, none⟩))).run Tryz.prog W = .ok (.pointer a) W := by go_simp
theorem ld_bo {W : World} {B o : Nat} {x : Bool} (h : W.cell? ⟨B, o, none⟩ = some (.bool x)) : (Instr.loadAt 4 (.pointer (some ⟨B, o, none⟩))).run Tryz.prog W = .ok (.bool x) W := by go_simp
theorem eqB_t (x y : Operand) (w : World) : binRun Tryz.prog .eql 4 x y (.bool true) (.bool true) w = .ok (.bool true) w := by kernel_rfl
theorem reps_nw {n f ro : Int} {s N : Nat} (hs : s < 100) : (nwT n f (s : Int) ro N).reps = 2 ^ s := by
  show wthN 0 (s : Int) = 2 ^ s
  simp [wthN, cln]
  intro h
  omega
/-- While the list of notices is kept. -/
structure J9k (base bb : Nat) (u : World) (d6 : Bool) (V : World) : Prop where
  tp : TpZ bb u V
  b0 : d6 = false → Below u.heap.size u V
  bk : d6 = true → Bk1 base bb V
/-- While both sights are held side by side. -/
structure J9l (u : World) (m : Nat) (L : List N3) (g : Option Addr × Nat) (d4 : Bool) (V : World) : Prop where
  be : Below u.heap.size u V
  rw : d4 = true → V.ownsRow u.heap.size 185 3 (.slice g.1 m g.2) m (fl L)
theorem J9l.carry {u V V' : World} {m : Nat} {L : List N3} {g : Option Addr × Nat} {d4 : Bool} (h : J9l u m L g d4 V) (hb : Below V.heap.size V V') : J9l u m L g d4 V' := ⟨bel2 h.be hb, fun e => row_below (h.rw e) hb⟩
section
variable {w0 U : World} {base xx : Nat} {A : NA} {S : Ns} {z : Bx9} {L : List N3} {e : Ev}
set_option maxHeartbeats 40000000 in
set_option maxRecDepth 100000 in
theorem looks_open (hN : Nd w0 base xx A S) (hzp : z.p = xx) (hzb : z.bb = w0.heap.size) (hU : Below w0.heap.size w0 U) (hB : Kel.Bb 78 U w0.heap.size nil24) (hX : BX9 U (w0.heap.size + 1) z) (hrd : RdN w0 z.ad L) (hl : L.length = z.m) (hl0 : 0 < z.m) (hl1 : z.m ≤ 100) (hbo : Bok L) (hs : z.s < 100) (hH : z.H < S128) (hg : w0.ownsRow base 3 1 (.slice (some ⟨z.g1, 0, none⟩) 1 1) 1 (inV [(z.s : Int)])) (hpa : w0.ownsRow base 121 15 (.slice (some ⟨z.g3, 0, none⟩) 1 z.c3) 1 (ecs [e])) (hev : S.ev = [e]) (hSl : S.l = L) (hSi : siC (dSi S) = sg9 z L) :
    Calls Tryz.prog 14 #[.pointer (some ⟨w0.heap.size + 1, 0, none⟩)] U fun r w' => r = .returned (.bool true) ∧ Bk2 w0.heap.size w0.heap.size w' ∧ Below w0.heap.size w0 w' ∧ BX9 w' (w0.heap.size + 1) z := by
  have hmx : Tryz.prog.follows .mixedOrders = true := by kernel_rfl
  have hsS : sus L < S128 := Nat.lt_trans (sus_lt hbo (by omega)) (by decide)
  have h2S : 2 ^ z.s < S128 := by
    have h1 : 2 ^ z.s ≤ 2 ^ 100 := Nat.pow_le_pow_right (by decide) (by omega)
    exact Nat.lt_of_le_of_lt h1 (by decide)
  obtain ⟨cg, hgl⟩ : w0.cell? ⟨z.g1, 0, none⟩ = some (.int .i64 (z.s : Int)) ∧ z.g1 < w0.heap.size := ⟨(hg.cellAt 0 (by decide)).trans rfl, (row_lt2 hg z.g1 rfl).2⟩
  have hsg := fun V (hV : Below w0.heap.size w0 V) => sight_any (hN.carry hV) (by rw [hSl, hl]; exact hl0) (by rw [hSl, hl]; exact hl1) (by rw [hSl]; exact hbo)
  rw [hSl, hl, hSi] at hsg
  have hps := fun V (hV : Below w0.heap.size w0 V) => past_any (hN.carry hV) (by rw [hev]; simp)
  rw [hev] at hps
  have hup := fun V (hV : Below w0.heap.size w0 V) => up_yes (hN.carry hV).obj
  have hrs := fun V (hV : Below w0.heap.size w0 V) (hx : BX9 V (w0.heap.size + 1) z) => rsight_any hx (hrd.carry hV) hl hl0 hl1 hbo hs ((World.cell?_of_block (a := ⟨z.g1, 0, none⟩) (hV.block _ hgl)).trans cg) (Nat.lt_of_lt_of_le hgl hV.size)
  have c0 : U.cell? ⟨w0.heap.size + 1, 0, none⟩ = some (.pointer (some ⟨xx, 0, none⟩)) := by rw [← hzp]; exact hX.c 0 rfl
  have c25 : ∀ V, BX9 V (w0.heap.size + 1) z → V.cell? ⟨w0.heap.size + 1, 25, none⟩ = some (.pointer (some ⟨w0.heap.size, 0, none⟩)) := fun V hV => by
    have : V.cell? ⟨w0.heap.size + 1, 25, none⟩ = some (.pointer (some ⟨z.bb, 0, none⟩)) := hV.c 25 rfl
    rw [hzb] at this
    exact this
  have c0' : ∀ V, BX9 V (w0.heap.size + 1) z → V.cell? ⟨w0.heap.size + 1, 0, none⟩ = some (.pointer (some ⟨xx, 0, none⟩)) := fun V hV => by
    have : V.cell? ⟨w0.heap.size + 1, 0, none⟩ = some (.pointer (some ⟨z.p, 0, none⟩)) := hV.c 0 rfl
    rw [hzp] at this
    exact this
  have hUs := hU.size
  have hxl := hX.lt
  have hsg1 := hsg U hU
  go_enter Tryz.func14, Tryz.ntmps14
  go_wp2_with (first
    | (go_at_call 19; (with_reducible refine hsg1.mono ?_); rintro r u1 ⟨a1, c1, rfl, o1, hb1⟩; obtain ⟨u2, hu2⟩ : ∃ V, u1.alloc (.cells siZ 91) = V := ⟨_, rfl⟩; have hb2 : Below u1.heap.size u1 u2 := (by rw [← hu2]; exact al1' _ _); have g2 : u2.heap[u1.heap.size]? = some (.cells siZ 91 (0, 0)) := (by rw [← hu2]; exact new_at rfl); unfold siZ at hu2)
    | (have m := g2; refine wpList_store_row rfl 91 (.tmp 3) (.tmp 9) rfl u1.heap.size (sg9 z L (.slice a1 z.m c1)) rfl rfl 91 _ g2 infoSi rfl (by simp [sg9, sgA, Value.oneCell']) ?_; obtain ⟨u3, hu3⟩ : ∃ v, u2.setRow u1.heap.size (sg9 z L (.slice a1 z.m c1)) = v := ⟨_, rfl⟩; have g3 : u3.heap[u1.heap.size]? = some (.cells (sg9 z L (.slice a1 z.m c1)) 91 (0, 0)) := (by rw [← hu3]; exact setRow_heap _ _ _ _ _ _ g2); have hb3 : Below u1.heap.size u1 u3 := (by rw [← hu3]; exact below_row hb2 (Nat.le_refl _) _); have hbU3 : Below U.heap.size U u3 := bel2 hb1 hb3; have hw3 : Below w0.heap.size w0 u3 := hU.trans (hbU3.mono hUs); have o3 := row_below o1 hb3; have X3 := hX.carry hbU3; have c30 := c0' u3 X3; have hps3 := hps u3 hw3; rw [hu3])
    | (go_at_call 46; (with_reducible refine hps3.mono ?_); rintro r u4 ⟨a4, c4, rfl, o4, hb4⟩))
  rename_i hK
  have g4 := (hb4.block _ (lt_at g3)).trans g3
  have hbU4 : Below U.heap.size U u4 := bel2 hbU3 hb4
  have hw4 : Below w0.heap.size w0 u4 := hU.trans (hbU4.mono hUs)
  have X4 := hX.carry hbU4
  have B4 : Kel.Bb 78 u4 w0.heap.size nil24 := hB.carry hbU4
  have s1 := hb1.size
  have s3 := hb3.size
  have s4 := hb4.size
  have o34 : u4.ownsRow w0.heap.size 185 3 (.slice a1 z.m c1) L.length (fl L) := by rw [hl]; exact row_base (row_below o3 hb4) hUs
  have g16 : u4.cell? ⟨u1.heap.size, 16, none⟩ = some (.slice a1 z.m c1) := (cell_at g4 16).trans rfl
  have hne1 : u1.heap.size ≠ w0.heap.size := by omega
  refine wp_region_any hmx ?_
  refine wpAny_tabG (G := Unit) (fun g i__ => ([(.pointer (some ⟨w0.heap.size + 1, 0, none⟩)), (.pointer (some ⟨w0.heap.size + 1, 0, none⟩)), (.pointer (some ⟨w0.heap.size + 1, 25, none⟩)), (.pointer (some ⟨w0.heap.size, 0, none⟩)), (.pointer (some ⟨u1.heap.size, 16, none⟩)), (.slice a1 z.m c1), (.tuple #[])] : List Value).getD i__ undef) (fun _ d V => J9k w0.heap.size w0.heap.size u4 (d 6) V) (by kernel_rfl) (()) (show J9k w0.heap.size w0.heap.size u4 false _ from ⟨TpZ.of _ (Below.refl _ _).drew, fun _ => (Below.refl _ _).drew, fun q => (by cases q)⟩) ?step1 ?fin1
  case step1 =>
    intro i o ho
    have hi : i < 7 := getElem?_lt ho
    match i, hi, ho with
    | 0, _, ho =>
      cases ho
      refine stepG_of (fun g d hdep => ?_)
      exact step_move rfl trivial _ rfl (by kernel_rfl)
    | 1, _, ho =>
      cases ho
      refine stepG_of (fun g d hdep => ?_)
      exact step_nilCheck rfl trivial _ _ _ rfl rfl rfl
    | 2, _, ho =>
      cases ho
      refine stepG_of (fun g d hdep => ?_)
      exact step_fieldAddr rfl trivial _ _ _ _ rfl rfl (fun v hw => (fld_bo v _).2.2)
    | 3, _, ho =>
      cases ho
      refine stepG_of (fun g d hdep => ?_)
      exact step_load rfl trivial _ _ _ rfl rfl (fun v hw => ld_bk (c25 v ((hw.tp.block _ X4.lt (by omega)).trans X4)))
    | 4, _, ho =>
      cases ho
      refine stepG_of (fun g d hdep => ?_)
      exact step_fieldAddr rfl trivial _ _ _ _ rfl rfl (fun v hw => fld_si v _)
    | 5, _, ho =>
      cases ho
      refine stepG_of (fun g d hdep => ?_)
      exact step_load rfl trivial _ _ _ rfl rfl (fun v hw => load_ns9 ((World.cell?_of_block (a := ⟨u1.heap.size, 16, none⟩) (hw.tp.block _ (lt_at g4) hne1)).trans g16))
    | 6, _, ho =>
      cases ho
      exact stepG_call rfl (fun _ => trivial) 47 _ _ (fun _ => [.pointer (some ⟨w0.heap.size, 0, none⟩), .slice a1 z.m c1]) rfl (fun g => by kernel_rfl) (enters_of Tryz.func47 (by kernel_rfl) rfl) (fun g d V hJ hun hdep hcl => by have hJ' := hJ; rw [hun] at hJ'; have hb := hJ'.b0 rfl; exact (keepN0 (B4.carry hb) (Nat.le_trans hw4.size hb.size) (row_below o34 hb) (by omega)).mono (by rintro e V' ⟨rfl, k1, k2⟩; exact ⟨(), rfl, fun _ _ => rfl, (hJ'.tp.trans k2), fun q => (by cases q), fun _ => k1⟩))
  intro g d W hall hW
  first | refine hK _ _ ?_ | refine (‹∀ (a : Act) (w : World), Code.wp Tryz.prog _ _ a w → _›) _ _ ?_ | skip
  simp only [finL, List.getD_cons_zero, List.getD_cons_succ, Nat.zero_add, Nat.reduceAdd, List.setIfInBounds_toArray, List.set_cons_zero, List.set_cons_succ]
  rw [hall 6 (by decide)] at hW
  clear hK
  have T5 := hW.tp
  have K5 := hW.bk rfl
  have X5 : BX9 W (w0.heap.size + 1) z := (T5.block _ X4.lt (by omega)).trans X4
  have g5 : W.heap[u1.heap.size]? = some (.cells (sg9 z L (.slice a1 z.m c1)) 91 (0, 0)) := (T5.block _ (lt_at g4) (by omega)).trans g4
  have hw5 : Below w0.heap.size w0 W := TpZ.young hw4 T5 (Nat.le_refl _)
  have o4W := row_moved o4 (fun k hk => T5.block k (row_lt2 o4 k hk).2 (by have := (row_lt2 o4 k hk).1; omega))
  have o45 : W.ownsRow w0.heap.size 121 15 (.slice a4 1 c4) 1 (ecs [e]) := row_base o4W (by omega)
  have o5 := row_moved (row_below o3 hb4) (fun k hk => T5.block k (row_lt2 (row_below o3 hb4) k hk).2 (by have := (row_lt2 (row_below o3 hb4) k hk).1; omega))
  have c525 := c25 W X5
  have hke := keepE1 (z := .slice a4 1 c4) (l := [e]) K5 hw5.size o45 (by simp)
  have s5 := T5.size
  go_wp2_with (go_at_call 48; (with_reducible refine hke.mono ?_); rintro r u6 ⟨rfl, K6, T6⟩)
  rename_i hK
  have X6 : BX9 u6 (w0.heap.size + 1) z := (T6.block _ X5.lt (by omega)).trans X5
  have g6 : u6.heap[u1.heap.size]? = some (.cells (sg9 z L (.slice a1 z.m c1)) 91 (0, 0)) := (T6.block _ (lt_at g5) (by omega)).trans g5
  have hw6 : Below w0.heap.size w0 u6 := TpZ.young hw5 T6 (Nat.le_refl _)
  have o46 : u6.ownsRow w0.heap.size 121 15 (.slice a4 1 c4) 1 (ecs [e]) := row_base (row_moved o4W (fun k hk => T6.block k (row_lt2 o4W k hk).2 (by have := (row_lt2 o4W k hk).1; omega))) (by omega)
  have o6 := row_moved o5 (fun k hk => T6.block k (row_lt2 o5 k hk).2 (by have := (row_lt2 o5 k hk).1; omega))
  have r16 : RdN u6 a1 L := rdn_of hl o6
  have s6 := T6.size
  refine wp_region_any hmx ?_
  refine wpAny_tabG (G := (Option Addr × Nat)) (fun g i__ => ([(.agg (sg9 z L (.slice a1 z.m c1))), (.pointer (some ⟨w0.heap.size + 1, 0, none⟩)), (.pointer (some ⟨w0.heap.size + 1, 0, none⟩)), (.pointer (some ⟨w0.heap.size + 1, 1, none⟩)), (.agg (sg9 z L (.slice g.1 z.m g.2))), (.bool true), (.bool true), (.slice a4 1 c4), (.pointer (some ⟨w0.heap.size + 1, 0, none⟩)), (.pointer (some ⟨w0.heap.size + 1, 0, none⟩)), (.pointer (some ⟨w0.heap.size + 1, 1, none⟩)), (.pointer (some ⟨w0.heap.size + 1, 22, none⟩)), (.slice (some ⟨z.g3, 0, none⟩) 1 z.c3), (.bool true), (.bool true), (.bool true), (.pointer (some ⟨w0.heap.size + 1, 0, none⟩)), (.pointer (some ⟨w0.heap.size + 1, 0, none⟩)), (.pointer (some ⟨w0.heap.size + 1, 0, none⟩)), (.pointer (some ⟨xx, 0, none⟩)), (.bool true), (.pointer (some ⟨w0.heap.size + 1, 0, none⟩)), (.pointer (some ⟨w0.heap.size + 1, 0, none⟩)), (.pointer (some ⟨w0.heap.size + 1, 1, none⟩)), (.pointer (some ⟨w0.heap.size + 1, 4, none⟩)), (.bool true), (.bool true), (.bool true), (.bool true)] : List Value).getD i__ undef) (fun g d V => J9l u6 z.m L g (d 4) V) (by kernel_rfl) ((none, 0)) (show J9l u6 z.m L (none, 0) false _ from ⟨(Below.refl _ _).drew, fun q => (by cases q)⟩) ?step2 ?fin2
  case step2 =>
    intro i o ho
    have hi : i < 29 := getElem?_lt ho
    match i, hi, ho with
    | 0, _, ho =>
      cases ho
      refine stepG_of (fun g d hdep => ?_)
      exact step_load rfl trivial _ _ _ rfl rfl (fun v hw => load_sg9 ⟨_, _, _, rfl⟩ ((hw.be.block _ (lt_at g6)).trans g6))
    | 1, _, ho =>
      cases ho
      refine stepG_of (fun g d hdep => ?_)
      exact step_move rfl trivial _ rfl (by kernel_rfl)
    | 2, _, ho =>
      cases ho
      refine stepG_of (fun g d hdep => ?_)
      exact step_nilCheck rfl trivial _ _ _ rfl rfl rfl
    | 3, _, ho =>
      cases ho
      refine stepG_of (fun g d hdep => ?_)
      exact step_fieldAddr rfl trivial _ _ _ _ rfl rfl (fun v hw => (fld_bo v _).2.1)
    | 4, _, ho =>
      cases ho
      exact stepG_call rfl (fun _ => trivial) 50 _ _ (fun _ => [.pointer (some ⟨w0.heap.size + 1, 1, none⟩)]) rfl (fun g => by kernel_rfl) (enters_of Tryz.func50 (by kernel_rfl) rfl) (fun g d V hJ hun hdep hcl => (hrs V (hw6.trans (hJ.be.mono hw6.size)) (X6.carry hJ.be)).mono (by rintro e V' ⟨a, c, rfl, ho, hb⟩; refine ⟨(a, c), rfl, (fun j hj => match j, hj with | 4, hj => (by rw [hj] at hun; cases hun)  | 0, _ => rfl | 1, _ => rfl | 2, _ => rfl | 3, _ => rfl | 5, _ => rfl | 6, _ => rfl | 7, _ => rfl | 8, _ => rfl | 9, _ => rfl | 10, _ => rfl | 11, _ => rfl | 12, _ => rfl | 13, _ => rfl | 14, _ => rfl | 15, _ => rfl | 16, _ => rfl | 17, _ => rfl | 18, _ => rfl | 19, _ => rfl | 20, _ => rfl | 21, _ => rfl | 22, _ => rfl | 23, _ => rfl | 24, _ => rfl | 25, _ => rfl | 26, _ => rfl | 27, _ => rfl | 28, _ => rfl | _ + 29, _ => rfl), ?_⟩; show J9l u6 z.m L _ true V'; exact ⟨bel2 hJ.be hb, fun _ => row_base ho hJ.be.size⟩))
    | 5, _, ho =>
      cases ho
      exact stepG_ofC (fun g d hun hdep hcl => step_call rfl trivial 49 _ _ [.agg (sg9 z L (.slice a1 z.m c1)), .agg (sg9 z L (.slice g.1 z.m g.2))] rfl (by kernel_rfl) (enters_of Tryz.func49 (by kernel_rfl) rfl) (fun V hJ => by have hJ' := hJ; rw [hdep 4 (by kernel_rfl)] at hJ'; exact (sameS_any hsS hH h2S a1 g.1 c1 g.2 L hl (by omega) V (r16.carry hJ'.be) (rdn_of hl (hJ'.rw rfl))).mono (by rintro e w' ⟨rfl, hb⟩; exact ⟨rfl, J9l.carry hJ hb⟩)))
    | 6, _, ho =>
      cases ho
      refine stepG_of (fun g d hdep => ?_)
      exact step_move rfl trivial _ rfl (by kernel_rfl)
    | 7, _, ho =>
      cases ho
      refine stepG_of (fun g d hdep => ?_)
      exact step_move rfl (by exact ⟨_, rfl, by kernel_rfl⟩) _ rfl (by kernel_rfl)
    | 8, _, ho =>
      cases ho
      refine stepG_of (fun g d hdep => ?_)
      exact step_move rfl (by exact ⟨_, rfl, by kernel_rfl⟩) _ rfl (by kernel_rfl)
    | 9, _, ho =>
      cases ho
      refine stepG_of (fun g d hdep => ?_)
      exact step_nilCheck rfl (by exact ⟨_, rfl, by kernel_rfl⟩) _ _ _ rfl rfl rfl
    | 10, _, ho =>
      cases ho
      refine stepG_of (fun g d hdep => ?_)
      exact step_fieldAddr rfl (by exact ⟨_, rfl, by kernel_rfl⟩) _ _ _ _ rfl rfl (fun v hw => (fld_bo v _).2.1)
    | 11, _, ho =>
      cases ho
      refine stepG_of (fun g d hdep => ?_)
      exact step_fieldAddr rfl (by exact ⟨_, rfl, by kernel_rfl⟩) _ _ _ _ rfl rfl (fun v hw => (fld_rn v _).2.2.2.2.1)
    | 12, _, ho =>
      cases ho
      refine stepG_of (fun g d hdep => ?_)
      exact step_load rfl (by exact ⟨_, rfl, by kernel_rfl⟩) _ _ _ rfl rfl (fun v hw => load_rpa ((X6.carry hw.be).c 22 rfl))
    | 13, _, ho =>
      cases ho
      refine stepG_of (fun g d hdep => ?_)
      exact step_call rfl (by exact ⟨_, rfl, by kernel_rfl⟩) 51 _ _ [(.slice a4 1 c4), (.slice (some ⟨z.g3, 0, none⟩) 1 z.c3)] rfl (by kernel_rfl) (enters_of Tryz.func51 (by kernel_rfl) rfl) (fun v hw => (sameE_any a4 (some ⟨z.g3, 0, none⟩) c4 z.c3 w0.heap.size base [e] v (row_below o46 hw.be) (row_below (row_below hpa hw6) hw.be) (by simp)).mono (by rintro e w' ⟨rfl, hb⟩; exact ⟨rfl, hw.carry hb⟩))
    | 14, _, ho =>
      cases ho
      refine stepG_of (fun g d hdep => ?_)
      exact step_pick rfl trivial _ _ _ true rfl (by kernel_rfl) (by kernel_rfl)
    | 15, _, ho =>
      cases ho
      refine stepG_of (fun g d hdep => ?_)
      exact step_move rfl trivial _ rfl (by kernel_rfl)
    | 16, _, ho =>
      cases ho
      refine stepG_of (fun g d hdep => ?_)
      exact step_move rfl (by exact ⟨_, rfl, by kernel_rfl⟩) _ rfl (by kernel_rfl)
    | 17, _, ho =>
      cases ho
      refine stepG_of (fun g d hdep => ?_)
      exact step_nilCheck rfl (by exact ⟨_, rfl, by kernel_rfl⟩) _ _ _ rfl rfl rfl
    | 18, _, ho =>
      cases ho
      refine stepG_of (fun g d hdep => ?_)
      exact step_fieldAddr rfl (by exact ⟨_, rfl, by kernel_rfl⟩) _ _ _ _ rfl rfl (fun v hw => (fld_bo v _).1)
    | 19, _, ho =>
      cases ho
      refine stepG_of (fun g d hdep => ?_)
      exact step_load rfl (by exact ⟨_, rfl, by kernel_rfl⟩) _ _ _ rfl rfl (fun v hw => ld_nd (c0' v (X6.carry hw.be)))
    | 20, _, ho =>
      cases ho
      refine stepG_of (fun g d hdep => ?_)
      exact step_call rfl (by exact ⟨_, rfl, by kernel_rfl⟩) 52 _ _ [(.pointer (some ⟨xx, 0, none⟩))] rfl (by kernel_rfl) (enters_of Tryz.func52 (by kernel_rfl) rfl) (fun v hw => (hup v (hw6.trans (hw.be.mono hw6.size))).mono (by rintro e w' ⟨rfl, hb⟩; obtain rfl := hb.symm; exact ⟨rfl, hw⟩))
    | 21, _, ho =>
      cases ho
      refine stepG_of (fun g d hdep => ?_)
      exact step_move rfl (by exact ⟨_, rfl, by kernel_rfl⟩) _ rfl (by kernel_rfl)
    | 22, _, ho =>
      cases ho
      refine stepG_of (fun g d hdep => ?_)
      exact step_nilCheck rfl (by exact ⟨_, rfl, by kernel_rfl⟩) _ _ _ rfl rfl rfl
    | 23, _, ho =>
      cases ho
      refine stepG_of (fun g d hdep => ?_)
      exact step_fieldAddr rfl (by exact ⟨_, rfl, by kernel_rfl⟩) _ _ _ _ rfl rfl (fun v hw => (fld_bo v _).2.1)
    | 24, _, ho =>
      cases ho
      refine stepG_of (fun g d hdep => ?_)
      exact step_fieldAddr rfl (by exact ⟨_, rfl, by kernel_rfl⟩) _ _ _ _ rfl rfl (fun v hw => (fld_rn v _).2.2.2.2.2)
    | 25, _, ho =>
      cases ho
      refine stepG_of (fun g d hdep => ?_)
      exact step_load rfl (by exact ⟨_, rfl, by kernel_rfl⟩) _ _ _ rfl rfl (fun v hw => ld_bo ((X6.carry hw.be).c 4 rfl))
    | 26, _, ho =>
      cases ho
      refine stepG_of (fun g d hdep => ?_)
      exact step_binOp rfl (by exact ⟨_, rfl, by kernel_rfl⟩) _ _ _ _ _ _ _ rfl rfl rfl (fun v hw => eqB_t _ _ v)
    | 27, _, ho =>
      cases ho
      refine stepG_of (fun g d hdep => ?_)
      exact step_pick rfl trivial _ _ _ true rfl (by kernel_rfl) (by kernel_rfl)
    | 28, _, ho =>
      cases ho
      refine stepG_of (fun g d hdep => ?_)
      exact step_assign rfl trivial _ rfl (by kernel_rfl) (fun _ h => h)
  intro g d W hall hW
  first | refine hK _ _ ?_ | refine (‹∀ (a : Act) (w : World), Code.wp Tryz.prog _ _ a w → _›) _ _ ?_ | skip
  simp only [finL, List.getD_cons_zero, List.getD_cons_succ, Nat.zero_add, Nat.reduceAdd, List.setIfInBounds_toArray, List.set_cons_zero, List.set_cons_succ]
  clear hK
  go_wp2
  go_ret
  exact ⟨rfl, K6.carry hW.be, hw6.trans (hW.be.mono hw6.size), X6.carry hW.be⟩
end
end Go.Proofs.YtklnfbanfgdgcaaGreatDoor
namespace Go.Proofs.YtklnfbanfgdgcaaGreatDoor
open Go.RowKit Go.Shelf Go.Lib
set_option linter.unusedVariables false

/-- Both refuse, with one error. -/
structure Bad (n f s : Int) (d : Dst) (E : Int) (d1 : Dst) : Prop where
  ne : E ≠ 0
  po : ∀ Y p, Dk Y p d → Calls Tryz.prog 9 #[.int .i64 n, .int .i64 f, .int .i64 s, .pointer (some ⟨p, 0, none⟩)] Y fun r w' => r = .returned (.tuple #[.pointer none, .int .i64 E]) ∧ Dk w' p d1 ∧ TpZ p Y w'
  ro : ∀ Y lb base r c, RfD Y lb 0 base r c d → Calls Tryz.prog 10 #[.int .i64 n, .int .i64 f, .int .i64 s, .pointer (some ⟨lb, 0, none⟩)] Y fun e w' => e = .returned (.tuple #[.agg nZ, .int .i64 E]) ∧ RO Y lb base r c d1 w'
/-- Both open a node. -/
structure Good (n f s : Nat) (d : Dst) : Prop where
  n1 : 1 ≤ n
  n2 : n ≤ 100
  fn : f < n
  sn : s < n
  e0 : (dOp d).e = 0
  rn : (dOp d).b.ro ≠ 1099511627775
theorem bad_or {n f s : Int} {d : Dst} (hO : Opd d) : (∃ E d1, Bad n f s d E d1) ∨ ∃ n' f' s' : Nat, n = (n' : Int) ∧ f = (f' : Int) ∧ s = (s' : Int) ∧ Good n' f' s' d := by
  by_cases hk : Okn n f s
  case neg =>
    exact .inl ⟨opE n f s, d, opE_bad hk, fun Y p hY => (nopen_bd hk _ Y).mono (by rintro r w' ⟨rfl, rfl⟩; exact ⟨rfl, hY, TpZ.of _ (Below.refl _ _)⟩), fun Y lb base r c hY => (rnopen_bd hk _ Y).mono (by rintro e w' ⟨rfl, hb⟩; exact ⟨rfl, hY.carry hb, Tf.of _ _ _ hb⟩)⟩
  obtain ⟨⟨k1, k2, k3, k4⟩, k5, k6⟩ := hk
  obtain ⟨n', rfl⟩ := Int.eq_ofNat_of_zero_le (show 0 ≤ n by omega)
  obtain ⟨f', rfl⟩ := Int.eq_ofNat_of_zero_le k3
  obtain ⟨s', rfl⟩ := Int.eq_ofNat_of_zero_le k5
  have n1 : 1 ≤ n' := by omega
  have n2 : n' ≤ 100 := by omega
  have h3 : f' < n' := by omega
  have h4 : s' < n' := by omega
  by_cases he : (dOp d).e = 0
  case neg =>
    exact .inl ⟨(dOp d).e, (dOp d).d, he, fun Y p hY => nopen_e1 hO hY n1 n2 h3 h4 he, fun Y lb base r c hY => rnopen_e1 hO hY n1 n2 h3 h4 he⟩
  by_cases hm : (dOp d).b.ro = 1099511627775
  · exact .inl ⟨120, (dOp d).d, by decide, fun Y p hY => nopen_e2 hO hY n1 n2 h3 h4 he hm, fun Y lb base r c hY => (rnopen_ok hO hY n1 n2 h3 h4 he).mono (by rintro e w' ⟨h1, _⟩; exact h1 hm)⟩
  · exact .inr ⟨n', f', s', rfl, rfl, rfl, n1, n2, h3, h4, he, hm⟩
section
variable {n f s : Nat} {d : Dst}
/-- The Boot of an opened node. -/
def bO (d : Dst) : Bo := ⟨(dOp d).b.r, (dOp d).b.ro + 1, (dOp d).b.ta⟩
theorem dO_good (hO : Opd d) (h : Good n f s d) : dO d = ⟨(dOp d).b.ro + 1, 0, (dOp d).d, bO d⟩ := by
  have := hO.dO
  rw [if_neg h.rn, if_pos h.e0] at this
  exact this
theorem po_good (hO : Opd d) (h : Good n f s d) {Y : World} {p base : Nat} (hY : Dk Y p d) (hb : base ≤ p) : Calls Tryz.prog 9 #[.int .i64 (n : Int), .int .i64 (f : Int), .int .i64 (s : Int), .pointer (some ⟨p, 0, none⟩)] Y fun r w' => ∃ x A, r = .returned (.tuple #[.pointer (some ⟨x, 0, none⟩), .int .i64 0]) ∧ Nd w' base x A (dOpen n f s d) ∧ A.p = p ∧ Y.heap.size ≤ x ∧ TpZ p Y w' := by
  have hk := hO.okb h.e0
  have hd := dO_good hO h
  have h4 := hk.2.2.2.1
  have hrn := h.rn
  exact nopen_ok hY hb hO.fz hO.w0 hO.wm h.e0 hk hO.fz1 hO.w1 hO.wm1 (by rw [hd]) (by rw [hd]; exact hk.2.2.2.2) h.n1 h.n2 h.fn h.sn (by rw [hd]; exact nwE_full h.n1 h.n2 h.fn h.sn (by show 1 ≤ (dOp d).b.ro + 1; omega) (by show (dOp d).b.ro + 1 ≤ _; omega))
theorem ro_good (hO : Opd d) (h : Good n f s d) {Y : World} {lb base r c : Nat} (hY : RfD Y lb 0 base r c d) : Calls Tryz.prog 10 #[.int .i64 (n : Int), .int .i64 (f : Int), .int .i64 (s : Int), .pointer (some ⟨lb, 0, none⟩)] Y fun e w' => ∃ ad cap g1 g2 g3 c3, e = .returned (.tuple #[.agg (rnV (n : Int) (f : Int) (s : Int) (.pointer (some ⟨lb, 0, none⟩)) (bO d) (.slice ad n cap) (fullN n) (n : Int) (f : Int) ((dOp d).b.ro + 1) (.slice (some ⟨g1, 0, none⟩) 1 1) (.slice (some ⟨g2, 0, none⟩) 1 1) (.slice (some ⟨g3, 0, none⟩) 1 c3)), .int .i64 0]) ∧ RNok Y base lb r c n f s (bO d) (dOp d).d ad cap g1 g2 g3 c3 w' := (rnopen_ok hO hY h.n1 h.n2 h.fn h.sn h.e0).mono (by rintro e w' ⟨_, h2⟩; exact h2 h.rn)
theorem good_bok (hO : Opd d) (h : Good n f s d) : Bok (bk0 n s (bO d).ta) := by
  have hk := hO.okb h.e0
  exact bk0_bok hk.2.2.2.2.1 hk.2.2.2.2.2
theorem good_l (hO : Opd d) (h : Good n f s d) : (dOpen n f s d).l = bk0 n s (bO d).ta := by
  show bk0 n s (dO d).b.ta = _
  rw [dO_good hO h]
theorem good_ev (hO : Opd d) (h : Good n f s d) : (dOpen n f s d).ev = [(evBg (bO d).ta (bO d).ro).at (s : Int) (bO d).r.li] := by
  show [(evBg (dO d).b.ta (dO d).x).at (s : Int) (dO d).b.r.li] = _
  rw [dO_good hO h]
  rfl
theorem good_si (hO : Opd d) (h : Good n f s d) {z : Bx9} (h1 : z.b = bO d) (h2 : z.H = fullN n) (h3 : z.R = (dOp d).b.ro + 1) (h4 : z.s = s) : siC (dSi (dOpen n f s d)) = sg9 z (bk0 n s (bO d).ta) := by
  funext v
  have e1 : (dSi (dOpen n f s d)) = ⟨true, (bO d).r.li, (dOp d).b.ro + 1, (bO d).ta, sus (bk0 n s (bO d).ta), fullN n, 2 ^ s, bk0 n s (bO d).ta⟩ := by
    have hd := dO_good hO h
    have h5 : (nwT (n : Int) (f : Int) (s : Int) (dO d).x (fullN n)).reps = 2 ^ s := reps_nw (by have := h.sn; have := h.n2; omega)
    unfold dSi dOpen
    rw [hd] at h5 ⊢
    dsimp only at h5 ⊢
    rw [h5]
    rfl
  rw [e1]
  show siC _ v = sgA z.b.r.li z.R z.b.ta (sus (bk0 n s (bO d).ta)) z.H (2 ^ z.s) v
  rw [h1, h2, h3, h4]
  rfl
theorem full_S128 {n : Nat} (h : n ≤ 100) : fullN n < S128 := by
  have h1 : 2 ^ n ≤ 2 ^ 100 := Nat.pow_le_pow_right (by decide) h
  unfold fullN S128
  omega
end
/-- The first image. -/
def imgO (f : Rec) (s : Int) : List Nat := slB f s ++ d0.l.drop 64
theorem imgO_len (f : Rec) (s : Int) : (imgO f s).length = 256 := by rw [imgO, List.length_append, slB_len, List.length_drop, d0_len]
theorem imgO_byt (f : Rec) (s : Int) : Byt (imgO f s) := (slB_byt f s).append ((byt_zero 256).drop 64)
theorem own_listO {W : World} {base r : Nat} {l : List Nat} (h : W.ownsRow base 5 1 (.slice (some ⟨r, 0, none⟩) 256 256) 256 (cB l)) : W.heap[r]? = some (.cells (cB l).toArray 5 (0, 0)) := by
  rcases h.2 with ⟨e1, _⟩ | ⟨g1, c1, cur, e1, _, h3, h4, h5, h6, h7⟩
  · cases e1
  · cases e1
    have e : cur = (cB l).toArray := by
      apply Array.toList_inj.1
      simp at h6 h7
      rw [← h7, List.take_of_length_le (by simp; omega)]
    rw [h3, e]
theorem list_ownO {W : World} {base r : Nat} {l : List Nat} (h : W.heap[r]? = some (.cells (cB l).toArray 5 (0, 0))) (hl : l.length = 256) (hb : base ≤ r) : W.ownsRow base 5 1 (.slice (some ⟨r, 0, none⟩) 256 256) 256 (cB l) := by
  refine ⟨by rw [cB_len, hl], .inr ⟨r, 256, _, rfl, hb, h, Nat.le_refl _, by unfold maxLen; omega, by simp [cB_len, hl], ?_⟩⟩
  simp [List.take_of_length_le, cB_len, hl]
theorem im_atO {W : World} {g : Nat} {l : List Nat} (h : W.heap[g]? = some (.cells (cB l).toArray 5 (0, 0))) : BAt W g 0 l := fun k x hk => by
  rw [Nat.zero_add, cell_at h, List.getElem?_toArray]
  exact cB_get hk
theorem cz_sO {f : Rec} {s : Int} : (cB (slB f s)).length = 64 := by rw [cB_len, slB_len]
theorem cz_dO : (cB d0.l).toArray.size = 256 := by rw [List.size_toArray, cB_len, d0_len]
theorem cpy_imgO (f : Rec) (s : Int) : ((cB d0.l).toArray.toList.take 0 ++ (cB (slB f s) ++ (cB d0.l).toArray.toList.drop (0 + (cB (slB f s)).length))).toArray = (cB (imgO f s)).toArray := by
  rw [cB_len, slB_len, imgO]
  simp [cB]
end Go.Proofs.YtklnfbanfgdgcaaGreatDoor
namespace Go.Proofs.YtklnfbanfgdgcaaGreatDoor
open Go.RowKit Go.Shelf Go.Lib
attribute [local go_sem] Oper.semAt_some
set_option linter.unusedVariables false

theorem ask_cells {W : World} {B : Nat} {a b c q l o t : Int} (h : W.heap[B]? = some (.cells #[.int .i64 a, .int .i64 b, .int .i64 c, .int .i64 q, .int .i64 l, .int .i64 o, .int .i64 t, .slice none 0 0] 26 (0, 0))) : W.cell? ⟨B, 0, none⟩ = some (.int .i64 a) ∧ W.cell? ⟨B, 1, none⟩ = some (.int .i64 b) ∧ W.cell? ⟨B, 2, none⟩ = some (.int .i64 c) ∧ W.cell? ⟨B, 3, none⟩ = some (.int .i64 q) ∧ W.cell? ⟨B, 4, none⟩ = some (.int .i64 l) ∧ W.cell? ⟨B, 5, none⟩ = some (.int .i64 o) ∧ W.cell? ⟨B, 6, none⟩ = some (.int .i64 t) ∧ W.cell? ⟨B, 7, none⟩ = some (.slice none 0 0) := ⟨(cell_at h 0).trans rfl, (cell_at h 1).trans rfl, (cell_at h 2).trans rfl, (cell_at h 3).trans rfl, (cell_at h 4).trans rfl, (cell_at h 5).trans rfl, (cell_at h 6).trans rfl, (cell_at h 7).trans rfl⟩
theorem neqP_s (x y : Operand) (k : Nat) (w : World) : binRun Tryz.prog .neq 40 x y (.pointer (some ⟨k, 0, none⟩)) (.pointer none) w = .ok (.bool true) w := by simp [binRun, go_sem]
theorem neqP_n (x y : Operand) (w : World) : binRun Tryz.prog .neq 40 x y (.pointer none) (.pointer none) w = .ok (.bool false) w := by kernel_rfl
theorem neqB_f (x y : Operand) (w : World) (b : Bool) : binRun Tryz.prog .neq 4 x y (.bool b) (.bool b) w = .ok (.bool false) w := by cases b <;> kernel_rfl
theorem Nd.tf {W V : World} {base x lb o r : Nat} {A : NA} {s : Ns} (h : Nd W base x A s) (ht : Tf lb o r W V) (h1 : lb < base) (h2 : r < base) : Nd V base x A s := by
  have hV : ∀ k, k < W.heap.size → ¬ (k = lb ∨ k = r) → V.heap[k]? = W.heap[k]? := fun k hk hn => ht.block k hk (fun e => hn (.inl e)) (fun e => hn (.inr e))
  have n1 : ∀ k, base ≤ k → ¬ (k = lb ∨ k = r) := fun k hk => by omega
  exact ⟨h.objS hV (n1 _ h.xb), h.btS hV (n1 _ h.qb), h.dkS hV (n1 _ h.pb), h.bkS hV (n1 _ h.kb) (n1 _ h.gb), h.taS hV (n1 _ h.ta.qb) (fun k e => n1 _ (h.tyT e).1), h.pastS hV (fun k e => n1 _ (h.tyE e).1), h.xb, h.qb, h.pb, h.kb, h.gb⟩
/-- While the image is told. -/
structure J9m (u : World) (l : List Nat) (y : Nat × Nat) (dd : Bool) (V : World) : Prop where
  be : Below u.heap.size u V
  im : dd = true → BAt V y.1 0 l ∧ y.1 < V.heap.size
theorem J9m.carry {u V V' : World} {l : List Nat} {y : Nat × Nat} {dd : Bool} (h : J9m u l y dd V) (hb : Below V.heap.size V V') : J9m u l y dd V' := ⟨bel2 h.be hb, fun e => by
  obtain ⟨a1, a2⟩ := h.im e
  exact ⟨a1.carry (hb.block _ a2), Nat.lt_of_lt_of_le a2 hb.size⟩⟩
theorem same_im {u V : World} {d : Dst} {y : Nat × Nat} {lb base rb : Nat} (h : J9m u d.l y true V) (hR : RfD V lb 0 base rb 256 d) : Calls Tryz.prog 11 #[.slice (some ⟨y.1, 0, none⟩) 256 y.2, .slice (some ⟨rb, 0, none⟩) 256 256] V fun e w' => e = .returned (.bool true) ∧ Below V.heap.size V w' := by
  obtain ⟨h1, h2⟩ := h.im rfl
  have hl := hR.len
  have s := sameB_yes (some ⟨y.1, 0, none⟩) (some ⟨rb, 0, none⟩) y.2 256 d.l V (fun _ => ⟨y.1, 0, rfl, h2, h1⟩) (fun _ => ⟨rb, 0, rfl, hR.lt.2, hR.at⟩) (by rw [hl]; omega)
  rw [hl] at s
  exact s
set_option maxHeartbeats 40000000 in
set_option maxRecDepth 100000 in
theorem play_fb (w : World) {a b c : Int} {q : Int} {r : Rec} (hfit : Fit r q) {E : Int} {d1 : Dst} (hBad : Bad a b c (dOf (imgO r q)) E d1) :
    Calls Tryz.prog 4 #[.agg #[.int .i64 a, .int .i64 b, .int .i64 c, .int .i64 q, .int .i64 r.li, .int .i64 r.ro, .int .i64 r.ta, .slice none 0 0], .bool true] w fun e w' => e = .returned (.bool true) ∧ Below w.heap.size w w' := by
  have hmx : Tryz.prog.follows .mixedOrders = true := by kernel_rfl
  have hen := fun V => rEnc_any r q V
  unfold rV at hen
  have hIl : ((imgO r q)).length = 256 := imgO_len r q
  have hIb : Byt (imgO r q) := imgO_byt r q
  have hO : Opd (dOf (imgO r q)) := opd_of rfl rfl rfl
  obtain ⟨wA, hwA⟩ : ∃ wA, w.alloc (.cells #[.int .i64 a, .int .i64 b, .int .i64 c, .int .i64 q, .int .i64 r.li, .int .i64 r.ro, .int .i64 r.ta, .slice none 0 0] 26) = wA := ⟨_, rfl⟩
  have hbA : Below w.heap.size w wA := by rw [← hwA]; exact al1' _ _
  have gA : wA.heap[w.heap.size]? = some (.cells #[.int .i64 a, .int .i64 b, .int .i64 c, .int .i64 q, .int .i64 r.li, .int .i64 r.ro, .int .i64 r.ta, .slice none 0 0] 26 (0, 0)) := by rw [← hwA]; exact new_at rfl
  have hAc := fun V (hb : Below wA.heap.size wA V) => ask_cells ((hb.block _ (lt_at gA)).trans gA)
  obtain ⟨_, _, _, _, _, _, _, k7⟩ := hAc wA (Below.refl _ _)
  go_enter Tryz.func4, Tryz.ntmps4
  go_wp2_with (first
    | (have m := hgi; refine wpList_store_row rfl 58 (.tmp 12) (.tmp 65) rfl vh.heap.size nZ rfl rfl 58 _ hgi infoRN rfl (by simp [nZ, Value.oneCell']) ?_; obtain ⟨vj, hvj⟩ : ∃ vj, vi.setRow vh.heap.size nZ = vj := ⟨_, rfl⟩; have hgj : vj.heap[vh.heap.size]? = some (.cells nZ 58 (0, 0)) := (by rw [← hvj]; exact setRow_heap _ _ _ _ _ _ hgi); have hbj : Below vh.heap.size vh vj := (by rw [← hvj]; exact below_row hbi (Nat.le_refl _) _); rw [hvj])
    | (go_at_call 10; (with_reducible refine hrv.mono ?_); rintro e vh ⟨rfl, hRO⟩; obtain ⟨vi, hvi⟩ : ∃ vi, vh.alloc (.cells nZ 58) = vi := ⟨_, rfl⟩; have hgi : vi.heap[vh.heap.size]? = some (.cells nZ 58 (0, 0)) := (by rw [← hvi]; exact new_at rfl); have hbi : Below vh.heap.size vh vi := (by rw [← hvi]; exact al1' _ _); have hTh := hRO.tf; have y1 := hBb.size; have y2 := hbB.size; have y3 := hLg.size; have hlb : wA.heap.size ≤ vb.heap.size := (by omega); have hrb : wA.heap.size ≤ rb := Nat.le_trans y2 hrg; have hLh : Below wA.heap.size wA vh := hLg.trans (hTh.below hlb hrb y3); clear k7; unfold nZ at hvi ⊢)
    | (go_at_call 9; (with_reducible refine hpv.mono ?_); rintro e vg ⟨rfl, hDg, hTg⟩; have hne1 : vb.heap.size ≠ ve.heap.size := (fun e => by have := lt_at hgl3; omega); have hne2 : rb ≠ ve.heap.size := (fun e => by have := lt_at hrw3; omega); have hRg := hRf.same (hTg.block _ hRf.lt.1 hne1) (hTg.block _ hRf.lt.2 hne2); have hLg : Below wA.heap.size wA vg := TpZ.young hLf hTg hLe.size; clear k0 k1 k2 k3 k4 k5 k6 k7; obtain ⟨k0, k1, k2, k3, k4, k5, k6, k7⟩ := hAc vg hLg; have hrv := hBad.ro _ _ _ _ _ hRg)
    | (go_at_call 8; (with_reducible refine hof.mono ?_); rintro e vf ⟨rfl, hDf, hltf, hBf⟩; have hRf := hRe.carry hBf; have hLf : Below wA.heap.size wA vf := bel2 hLe hBf; clear k0 k1 k2 k3 k4 k5 k6 k7; obtain ⟨k0, k1, k2, k3, k4, k5, k6, k7⟩ := hAc vf hLf; have hpv := hBad.po _ _ hDf)
    | (refine wpList_copy_own rfl _ _ _ _ rfl 5 Tryz.underlying30 infoB1 rb 0 256 256 ⟨ge, 0, none⟩ 64 64 rfl rfl (cB d0.l).toArray 5 hrw2 (cB (slB r q)) (by rw [cB_len, slB_len]; rfl) (b_src (im_atO hI1)) (by rw [cz_sO, cz_dO]; omega) (cB_one _) ?_; rw [cpy_imgO]; obtain ⟨ve, hve⟩ : ∃ ve, vd.setRow rb (cB (imgO r q)).toArray = ve := ⟨_, rfl⟩; have hgl3 : ve.heap[vb.heap.size]? = some (.cells #[.slice (some ⟨rb, 0, none⟩) 256 256, .bool false, .int .i64 (-1), .int .i64 0] 32 (0, 0)) := (by rw [← hve]; exact (Go.setRow_other _ _ _ _ (show vb.heap.size ≠ rb by have := row_lt0 hrow; omega)).trans hgl2); have hrw3 : ve.heap[rb]? = some (.cells (cB (imgO r q)).toArray 5 (0, 0)) := (by rw [← hve]; exact setRow_heap _ _ _ _ _ _ hrw2); clear cl0; have hBe : Below uB.heap.size uB ve := (by rw [← hve]; exact below_row (bel2 hBc hbd) hrg _); have hLe : Below wA.heap.size wA ve := bel2 hbB hBe; have cl1 := cell_at hgl3 0; simp at cl1; have hRe : RfD ve vb.heap.size 0 uB.heap.size rb 256 (dOf (imgO r q)) := ⟨cell_at hgl3 0, cell_at hgl3 1, cell_at hgl3 2, cell_at hgl3 3, list_ownO hrw3 hIl hrg, ⟨_, hgl3⟩, hIl, hIb⟩; have hof := of_ok rb 0 256 (imgO r q) ve (lt_at hrw3) (b_own (list_ownO (base := 0) hrw3 hIl (Nat.zero_le _)) (Eq.symm hIl)) hIl hIb (Nat.le_refl _); rw [hve])
    | (go_at_call 7; (with_reducible refine hen1.mono ?_); rintro e vd ⟨hyes, -, hbd⟩; obtain ⟨ge, rfl, hge, hI1⟩ := hyes hfit; have hgl2 := (hbd.block _ (lt_at hgl)).trans hgl; have hrw2 := (hbd.block _ (lt_at hrw)).trans hrw; have cl0 := cell_at hgl2 0; simp at cl0)
    | (have m := hgz; refine wpList_store_row rfl 32 (.tmp 5) (.tmp 23) rfl vb.heap.size #[.slice (some ⟨rb, 0, none⟩) 256 256, .bool false, .int .i64 (-1), .int .i64 0] rfl rfl 32 _ hgz info_rd rfl (by simp [Value.oneCell']) ?_; obtain ⟨vc, hvc⟩ : ∃ vc, vz.setRow vb.heap.size #[.slice (some ⟨rb, 0, none⟩) 256 256, .bool false, .int .i64 (-1), .int .i64 0] = vc := ⟨_, rfl⟩; have hgl : vc.heap[vb.heap.size]? = some (.cells #[.slice (some ⟨rb, 0, none⟩) 256 256, .bool false, .int .i64 (-1), .int .i64 0] 32 (0, 0)) := (by rw [← hvc]; exact setRow_heap _ _ _ _ _ _ hgz); have hbc : Below vb.heap.size vb vc := (by rw [← hvc]; exact below_row hbz (Nat.le_refl _) _); have hBc := bel2 hBb hbc; have hLc : Below wA.heap.size wA vc := bel2 hbB hBc; have hrw := (hbc.block _ (row_lt0 hrow)).trans (own_listO hrow); clear k7; obtain ⟨k0, k1, k2, k3, k4, k5, k6, k7⟩ := hAc vc hLc; have hen1 := hen vc; rw [hvc])
    | (go_at_call 6; (with_reducible refine hrn.mono ?_); rintro e vb ⟨rb, rfl, hrg, hrow, hBb⟩; obtain ⟨vz, hvz⟩ : ∃ vz, vb.alloc (.cells #[.slice none 0 0, .bool false, .int .i64 0, .int .i64 0] 32) = vz := ⟨_, rfl⟩; have hgz : vz.heap[vb.heap.size]? = some (.cells #[.slice none 0 0, .bool false, .int .i64 0, .int .i64 0] 32 (0, 0)) := (by rw [← hvz]; exact new_at rfl); have hbz : Below vb.heap.size vb vz := (by rw [← hvz]; exact al1' _ _))
    | (go_at_call 5; (with_reducible refine (nalive_any _).mono ?_); rintro e uB ⟨rfl, hbB⟩; have hrn := rnew_any uB; unfold rdV at hrn))
  rename_i hK
  have hLj : Below wA.heap.size wA vj := bel2 hLh hbj
  have hRj := hRO.rd.carry hbj
  have hlp : vb.heap.size < ve.heap.size ∧ rb < ve.heap.size := ⟨lt_at hgl3, lt_at hrw3⟩
  have hDh : Dk vh ve.heap.size d1 := ⟨(hTh.block _ hDg.lt (fun e => by omega) (fun e => by omega)).trans hDg.obj, hDg.len, hDg.byt⟩
  have hDj := hDh.carry hbj
  refine wp_region_any hmx ?_
  refine wpAny_tabG (G := (Nat × Nat)) (fun g i__ => ([(.int .i64 E), (.int .i64 E), (.bool false), (.bool false), (.int .i64 E), (.bool false), (.pointer none), (.bool false), (.bool false), (.bool false), (.bool false), (.pointer (some ⟨ve.heap.size, 0, none⟩)), (.slice (some ⟨g.1, 0, none⟩) 256 g.2), (.pointer (some ⟨vb.heap.size, 0, none⟩)), (.slice (some ⟨rb, 0, none⟩) 256 256), (.bool true), (.bool false), (.bool false)] : List Value).getD i__ undef) (fun y d V => J9m vj d1.l y (d 12) V) (by kernel_rfl) ((0, 0)) (show J9m vj d1.l (0, 0) false _ from ⟨(Below.refl _ _).drew, fun q => (by cases q)⟩) ?step1 ?fin1
  case step1 =>
    intro i o ho
    have hi : i < 18 := getElem?_lt ho
    match i, hi, ho with
    | 0, _, ho =>
      cases ho
      refine stepG_of (fun g d hdep => ?_)
      exact step_move rfl trivial _ rfl (by kernel_rfl)
    | 1, _, ho =>
      cases ho
      refine stepG_of (fun g d hdep => ?_)
      exact step_move rfl trivial _ rfl (by kernel_rfl)
    | 2, _, ho =>
      cases ho
      refine stepG_of (fun g d hdep => ?_)
      exact step_binOp rfl trivial _ _ _ _ _ _ _ rfl rfl rfl (fun v hw => neqK_f _ _)
    | 3, _, ho =>
      cases ho
      refine stepG_of (fun g d hdep => ?_)
      exact step_move rfl trivial _ rfl (by kernel_rfl)
    | 4, _, ho =>
      cases ho
      refine stepG_of (fun g d hdep => ?_)
      exact step_move rfl (by exact ⟨_, rfl, by kernel_rfl⟩) _ rfl (by kernel_rfl)
    | 5, _, ho =>
      cases ho
      refine stepG_of (fun g d hdep => ?_)
      exact step_binOp rfl (by exact ⟨_, rfl, by kernel_rfl⟩) _ _ _ _ _ _ _ rfl rfl rfl (fun v hw => (bin_eql0 .i64 E 0).trans (by simp [hBad.ne]))
    | 6, _, ho =>
      cases ho
      refine stepG_of (fun g d hdep => ?_)
      exact step_move rfl (by exact ⟨_, rfl, by kernel_rfl⟩) _ rfl (by kernel_rfl)
    | 7, _, ho =>
      cases ho
      refine stepG_of (fun g d hdep => ?_)
      exact step_binOp rfl (by exact ⟨_, rfl, by kernel_rfl⟩) _ _ _ _ _ _ _ rfl rfl rfl (fun v hw => neqP_n _ _ _)
    | 8, _, ho =>
      cases ho
      refine stepG_of (fun g d hdep => ?_)
      exact step_binOp rfl (by exact ⟨_, rfl, by kernel_rfl⟩) _ _ _ _ _ _ _ rfl rfl rfl (fun v hw => neqB_f _ _ _ false)
    | 9, _, ho =>
      cases ho
      refine stepG_of (fun g d hdep => ?_)
      exact step_pick rfl trivial _ _ _ false rfl (by kernel_rfl) (by kernel_rfl)
    | 10, _, ho =>
      cases ho
      refine stepG_of (fun g d hdep => ?_)
      exact step_move rfl trivial _ rfl (by kernel_rfl)
    | 11, _, ho =>
      cases ho
      refine stepG_of (fun g d hdep => ?_)
      exact step_move rfl (by exact ⟨_, rfl, by kernel_rfl⟩) _ rfl (by kernel_rfl)
    | 12, _, ho =>
      cases ho
      exact stepG_call rfl (fun _ => (by exact ⟨_, rfl, by kernel_rfl⟩)) 12 _ _ (fun _ => [.pointer (some ⟨ve.heap.size, 0, none⟩)]) rfl (fun g => by kernel_rfl) (enters_of Tryz.func12 (by kernel_rfl) rfl) (fun g d V hJ hun hdep hcl => (image_any (hDj.carry hJ.be)).mono (by rintro e V' ⟨g9, c9, rfl, ho, hb⟩; refine ⟨(g9, c9), rfl, (fun j hj => match j, hj with | 12, hj => (by rw [hj] at hun; cases hun)  | 0, _ => rfl | 1, _ => rfl | 2, _ => rfl | 3, _ => rfl | 4, _ => rfl | 5, _ => rfl | 6, _ => rfl | 7, _ => rfl | 8, _ => rfl | 9, _ => rfl | 10, _ => rfl | 11, _ => rfl | 13, _ => rfl | 14, _ => rfl | 15, _ => rfl | 16, _ => rfl | 17, _ => rfl | _ + 18, _ => rfl), ?_⟩; show J9m vj d1.l (g9, c9) true V'; exact ⟨bel2 hJ.be hb, fun _ => ⟨b_own ho hDj.len.symm, row_lt0 ho⟩⟩))
    | 13, _, ho =>
      cases ho
      refine stepG_of (fun g d hdep => ?_)
      exact step_fieldAddr rfl (by exact ⟨_, rfl, by kernel_rfl⟩) _ _ _ _ rfl rfl (fun v hw => field_rd0 v _ _)
    | 14, _, ho =>
      cases ho
      refine stepG_of (fun g d hdep => ?_)
      exact step_load rfl (by exact ⟨_, rfl, by kernel_rfl⟩) _ _ _ rfl rfl (fun v hw => load_sl (hRj.carry hw.be).b)
    | 15, _, ho =>
      cases ho
      refine stepG_of (fun g d hdep => ?_)
      exact step_call rfl (by exact ⟨_, rfl, by kernel_rfl⟩) 11 _ _ [(.slice (some ⟨g.1, 0, none⟩) 256 g.2), (.slice (some ⟨rb, 0, none⟩) 256 256)] rfl (by kernel_rfl) (enters_of Tryz.func11 (by kernel_rfl) rfl) (fun v hw => by have h12 : d 12 = true := hdep 12 (by kernel_rfl); have hw2 := hw; rw [h12] at hw2; exact (same_im hw2 (hRj.carry hw2.be)).mono (by rintro e w' ⟨rfl, hb⟩; exact ⟨rfl, hw.carry hb⟩))
    | 16, _, ho =>
      cases ho
      refine stepG_of (fun g d hdep => ?_)
      exact step_unOp rfl (by exact ⟨_, rfl, by kernel_rfl⟩) _ _ _ _ rfl rfl (fun v hw => un_not true v)
    | 17, _, ho =>
      cases ho
      refine stepG_of (fun g d hdep => ?_)
      exact step_pick rfl trivial _ _ _ false rfl (by kernel_rfl) (by kernel_rfl)
  intro g d W hall hW
  first | refine hK _ _ ?_ | refine (‹∀ (a : Act) (w : World), Code.wp Tryz.prog _ _ a w → _›) _ _ ?_ | skip
  simp only [finL, List.getD_cons_zero, List.getD_cons_succ, Nat.zero_add, Nat.reduceAdd, List.setIfInBounds_toArray, List.set_cons_zero, List.set_cons_succ]
  clear hK
  have hbW : Below vj.heap.size vj W := hW.be
  have hLW : Below wA.heap.size wA W := bel2 hLj hbW
  have hne := hBad.ne
  go_wp2
  go_ret
  exact ⟨rfl, bel2 hbA hLW⟩
set_option maxHeartbeats 40000000 in
set_option maxRecDepth 100000 in
theorem play_fg (w : World) {n f s : Nat} {q : Int} {r : Rec} (hfit : Fit r q) (hG : Good n f s (dOf (imgO r q))) :
    Calls Tryz.prog 4 #[.agg #[.int .i64 (n : Int), .int .i64 (f : Int), .int .i64 (s : Int), .int .i64 q, .int .i64 r.li, .int .i64 r.ro, .int .i64 r.ta, .slice none 0 0], .bool true] w fun e w' => e = .returned (.bool true) ∧ Below w.heap.size w w' := by
  have hmx : Tryz.prog.follows .mixedOrders = true := by kernel_rfl
  have hen := fun V => rEnc_any r q V
  unfold rV at hen
  have hIl : ((imgO r q)).length = 256 := imgO_len r q
  have hIb : Byt (imgO r q) := imgO_byt r q
  have hO : Opd (dOf (imgO r q)) := opd_of rfl rfl rfl
  obtain ⟨wA, hwA⟩ : ∃ wA, w.alloc (.cells #[.int .i64 (n : Int), .int .i64 (f : Int), .int .i64 (s : Int), .int .i64 q, .int .i64 r.li, .int .i64 r.ro, .int .i64 r.ta, .slice none 0 0] 26) = wA := ⟨_, rfl⟩
  have hbA : Below w.heap.size w wA := by rw [← hwA]; exact al1' _ _
  have gA : wA.heap[w.heap.size]? = some (.cells #[.int .i64 (n : Int), .int .i64 (f : Int), .int .i64 (s : Int), .int .i64 q, .int .i64 r.li, .int .i64 r.ro, .int .i64 r.ta, .slice none 0 0] 26 (0, 0)) := by rw [← hwA]; exact new_at rfl
  have hAc := fun V (hb : Below wA.heap.size wA V) => ask_cells ((hb.block _ (lt_at gA)).trans gA)
  obtain ⟨_, _, _, _, _, _, _, k7⟩ := hAc wA (Below.refl _ _)
  go_enter Tryz.func4, Tryz.ntmps4
  go_wp2_with (first
    | (have m := hgi; refine wpList_store_row rfl 58 (.tmp 12) (.tmp 65) rfl vh.heap.size (rnV (n : Int) (f : Int) (s : Int) (.pointer (some ⟨vb.heap.size, 0, none⟩)) bo (.slice ad n cap) (fullN n) (n : Int) (f : Int) R (.slice (some ⟨g1, 0, none⟩) 1 1) (.slice (some ⟨g2, 0, none⟩) 1 1) (.slice (some ⟨g3, 0, none⟩) 1 c3)) rfl rfl 58 _ hgi infoRN rfl (by exact rnV_one ..) ?_; obtain ⟨vj, hvj⟩ : ∃ vj, vi.setRow vh.heap.size (rnV (n : Int) (f : Int) (s : Int) (.pointer (some ⟨vb.heap.size, 0, none⟩)) bo (.slice ad n cap) (fullN n) (n : Int) (f : Int) R (.slice (some ⟨g1, 0, none⟩) 1 1) (.slice (some ⟨g2, 0, none⟩) 1 1) (.slice (some ⟨g3, 0, none⟩) 1 c3)) = vj := ⟨_, rfl⟩; have hgj : vj.heap[vh.heap.size]? = some (.cells (rnV (n : Int) (f : Int) (s : Int) (.pointer (some ⟨vb.heap.size, 0, none⟩)) bo (.slice ad n cap) (fullN n) (n : Int) (f : Int) R (.slice (some ⟨g1, 0, none⟩) 1 1) (.slice (some ⟨g2, 0, none⟩) 1 1) (.slice (some ⟨g3, 0, none⟩) 1 c3)) 58 (0, 0)) := (by rw [← hvj]; exact setRow_heap _ _ _ _ _ _ hgi); have hbj : Below vh.heap.size vh vj := (by rw [← hvj]; exact below_row hbi (Nat.le_refl _) _); rw [hvj])
    | (go_at_call 10; (with_reducible refine hrv.mono ?_); rintro e vh ⟨ad, cap, g1, g2, g3, c3, rfl, hNok⟩; have hRO := hNok.ro; obtain ⟨vi, hvi⟩ : ∃ vi, vh.alloc (.cells nZ 58) = vi := ⟨_, rfl⟩; have hgi : vi.heap[vh.heap.size]? = some (.cells nZ 58 (0, 0)) := (by rw [← hvi]; exact new_at rfl); have hbi : Below vh.heap.size vh vi := (by rw [← hvi]; exact al1' _ _); have hTh := hRO.tf; have y1 := hBb.size; have y2 := hbB.size; have y3 := hLg.size; have hlb : wA.heap.size ≤ vb.heap.size := (by omega); have hrb : wA.heap.size ≤ rb := Nat.le_trans y2 hrg; have hLh : Below wA.heap.size wA vh := hLg.trans (hTh.below hlb hrb y3); clear k7; unfold nZ at hvi)
    | (go_at_call 9; (with_reducible refine hpv.mono ?_); rintro e vg ⟨xx, AA, rfl, hN, hAp, hxx, hTg⟩; have hne1 : vb.heap.size ≠ ve.heap.size := (fun e => by have := lt_at hgl3; omega); have hne2 : rb ≠ ve.heap.size := (fun e => by have := lt_at hrw3; omega); have hRg := hRf.same (hTg.block _ hRf.lt.1 hne1) (hTg.block _ hRf.lt.2 hne2); have hLg : Below wA.heap.size wA vg := TpZ.young hLf hTg hLe.size; clear k0 k1 k2 k3 k4 k5 k6 k7; obtain ⟨k0, k1, k2, k3, k4, k5, k6, k7⟩ := hAc vg hLg; have hrv := ro_good hO hG hRg; obtain ⟨bo, hbo⟩ : ∃ b, bO (dOf (imgO r q)) = b := ⟨_, rfl⟩; obtain ⟨R, hR⟩ : ∃ R, (dOp (dOf (imgO r q))).b.ro + 1 = R := ⟨_, rfl⟩; rw [hbo, hR] at hrv)
    | (go_at_call 8; (with_reducible refine hof.mono ?_); rintro e vf ⟨rfl, hDf, hltf, hBf⟩; have hRf := hRe.carry hBf; have hLf : Below wA.heap.size wA vf := bel2 hLe hBf; clear k0 k1 k2 k3 k4 k5 k6 k7; obtain ⟨k0, k1, k2, k3, k4, k5, k6, k7⟩ := hAc vf hLf; have hpv := po_good hO hG hDf (Nat.le_refl _))
    | (refine wpList_copy_own rfl _ _ _ _ rfl 5 Tryz.underlying30 infoB1 rb 0 256 256 ⟨ge, 0, none⟩ 64 64 rfl rfl (cB d0.l).toArray 5 hrw2 (cB (slB r q)) (by rw [cB_len, slB_len]; rfl) (b_src (im_atO hI1)) (by rw [cz_sO, cz_dO]; omega) (cB_one _) ?_; rw [cpy_imgO]; obtain ⟨ve, hve⟩ : ∃ ve, vd.setRow rb (cB (imgO r q)).toArray = ve := ⟨_, rfl⟩; have hgl3 : ve.heap[vb.heap.size]? = some (.cells #[.slice (some ⟨rb, 0, none⟩) 256 256, .bool false, .int .i64 (-1), .int .i64 0] 32 (0, 0)) := (by rw [← hve]; exact (Go.setRow_other _ _ _ _ (show vb.heap.size ≠ rb by have := row_lt0 hrow; omega)).trans hgl2); have hrw3 : ve.heap[rb]? = some (.cells (cB (imgO r q)).toArray 5 (0, 0)) := (by rw [← hve]; exact setRow_heap _ _ _ _ _ _ hrw2); clear cl0; have hBe : Below uB.heap.size uB ve := (by rw [← hve]; exact below_row (bel2 hBc hbd) hrg _); have hLe : Below wA.heap.size wA ve := bel2 hbB hBe; have cl1 := cell_at hgl3 0; simp at cl1; have hRe : RfD ve vb.heap.size 0 uB.heap.size rb 256 (dOf (imgO r q)) := ⟨cell_at hgl3 0, cell_at hgl3 1, cell_at hgl3 2, cell_at hgl3 3, list_ownO hrw3 hIl hrg, ⟨_, hgl3⟩, hIl, hIb⟩; have hof := of_ok rb 0 256 (imgO r q) ve (lt_at hrw3) (b_own (list_ownO (base := 0) hrw3 hIl (Nat.zero_le _)) (Eq.symm hIl)) hIl hIb (Nat.le_refl _); rw [hve])
    | (go_at_call 7; (with_reducible refine hen1.mono ?_); rintro e vd ⟨hyes, -, hbd⟩; obtain ⟨ge, rfl, hge, hI1⟩ := hyes hfit; have hgl2 := (hbd.block _ (lt_at hgl)).trans hgl; have hrw2 := (hbd.block _ (lt_at hrw)).trans hrw; have cl0 := cell_at hgl2 0; simp at cl0)
    | (have m := hgz; refine wpList_store_row rfl 32 (.tmp 5) (.tmp 23) rfl vb.heap.size #[.slice (some ⟨rb, 0, none⟩) 256 256, .bool false, .int .i64 (-1), .int .i64 0] rfl rfl 32 _ hgz info_rd rfl (by simp [Value.oneCell']) ?_; obtain ⟨vc, hvc⟩ : ∃ vc, vz.setRow vb.heap.size #[.slice (some ⟨rb, 0, none⟩) 256 256, .bool false, .int .i64 (-1), .int .i64 0] = vc := ⟨_, rfl⟩; have hgl : vc.heap[vb.heap.size]? = some (.cells #[.slice (some ⟨rb, 0, none⟩) 256 256, .bool false, .int .i64 (-1), .int .i64 0] 32 (0, 0)) := (by rw [← hvc]; exact setRow_heap _ _ _ _ _ _ hgz); have hbc : Below vb.heap.size vb vc := (by rw [← hvc]; exact below_row hbz (Nat.le_refl _) _); have hBc := bel2 hBb hbc; have hLc : Below wA.heap.size wA vc := bel2 hbB hBc; have hrw := (hbc.block _ (row_lt0 hrow)).trans (own_listO hrow); clear k7; obtain ⟨k0, k1, k2, k3, k4, k5, k6, k7⟩ := hAc vc hLc; have hen1 := hen vc; rw [hvc])
    | (go_at_call 6; (with_reducible refine hrn.mono ?_); rintro e vb ⟨rb, rfl, hrg, hrow, hBb⟩; obtain ⟨vz, hvz⟩ : ∃ vz, vb.alloc (.cells #[.slice none 0 0, .bool false, .int .i64 0, .int .i64 0] 32) = vz := ⟨_, rfl⟩; have hgz : vz.heap[vb.heap.size]? = some (.cells #[.slice none 0 0, .bool false, .int .i64 0, .int .i64 0] 32 (0, 0)) := (by rw [← hvz]; exact new_at rfl); have hbz : Below vb.heap.size vb vz := (by rw [← hvz]; exact al1' _ _))
    | (go_at_call 5; (with_reducible refine (nalive_any _).mono ?_); rintro e uB ⟨rfl, hbB⟩; have hrn := rnew_any uB; unfold rdV at hrn))
  rename_i hK
  have hLj : Below wA.heap.size wA vj := bel2 hLh hbj
  have hRj := hRO.rd.carry hbj
  have hlp : vb.heap.size < ve.heap.size ∧ rb < ve.heap.size := ⟨lt_at hgl3, lt_at hrw3⟩
  have hNh := hN.tf hTh hlp.1 hlp.2
  have hNj := hNh.carry hbj
  obtain ⟨d1, hd1⟩ : ∃ d, (dOp (dOf (imgO r q))).d = d := ⟨_, rfl⟩
  have hDj : Dk vj ve.heap.size d1 := by
    have h1 := hNj.dk
    rw [hAp] at h1
    have e1 : (dOpen n f s (dOf (imgO r q))).d = d1 := by rw [← hd1]; show (dO (dOf (imgO r q))).d = _; rw [dO_good hO hG]
    rw [e1] at h1
    exact h1
  rw [hd1] at hRj
  refine wp_region_any hmx ?_
  refine wpAny_tabG (G := (Nat × Nat)) (fun g i__ => ([(.int .i64 0), (.int .i64 0), (.bool false), (.bool false), (.int .i64 0), (.bool true), (.pointer (some ⟨xx, 0, none⟩)), (.bool true), (.bool false), (.bool false), (.bool false), (.pointer (some ⟨ve.heap.size, 0, none⟩)), (.slice (some ⟨g.1, 0, none⟩) 256 g.2), (.pointer (some ⟨vb.heap.size, 0, none⟩)), (.slice (some ⟨rb, 0, none⟩) 256 256), (.bool true), (.bool false), (.bool false)] : List Value).getD i__ undef) (fun y d V => J9m vj d1.l y (d 12) V) (by kernel_rfl) ((0, 0)) (show J9m vj d1.l (0, 0) false _ from ⟨(Below.refl _ _).drew, fun q => (by cases q)⟩) ?step2 ?fin2
  case step2 =>
    intro i o ho
    have hi : i < 18 := getElem?_lt ho
    match i, hi, ho with
    | 0, _, ho =>
      cases ho
      refine stepG_of (fun g d hdep => ?_)
      exact step_move rfl trivial _ rfl (by kernel_rfl)
    | 1, _, ho =>
      cases ho
      refine stepG_of (fun g d hdep => ?_)
      exact step_move rfl trivial _ rfl (by kernel_rfl)
    | 2, _, ho =>
      cases ho
      refine stepG_of (fun g d hdep => ?_)
      exact step_binOp rfl trivial _ _ _ _ _ _ _ rfl rfl rfl (fun v hw => neqK_f _ _)
    | 3, _, ho =>
      cases ho
      refine stepG_of (fun g d hdep => ?_)
      exact step_move rfl trivial _ rfl (by kernel_rfl)
    | 4, _, ho =>
      cases ho
      refine stepG_of (fun g d hdep => ?_)
      exact step_move rfl (by exact ⟨_, rfl, by kernel_rfl⟩) _ rfl (by kernel_rfl)
    | 5, _, ho =>
      cases ho
      refine stepG_of (fun g d hdep => ?_)
      exact step_binOp rfl (by exact ⟨_, rfl, by kernel_rfl⟩) _ _ _ _ _ _ _ rfl rfl rfl (fun v hw => (bin_eql0 .i64 0 0).trans (by simp))
    | 6, _, ho =>
      cases ho
      refine stepG_of (fun g d hdep => ?_)
      exact step_move rfl (by exact ⟨_, rfl, by kernel_rfl⟩) _ rfl (by kernel_rfl)
    | 7, _, ho =>
      cases ho
      refine stepG_of (fun g d hdep => ?_)
      exact step_binOp rfl (by exact ⟨_, rfl, by kernel_rfl⟩) _ _ _ _ _ _ _ rfl rfl rfl (fun v hw => neqP_s _ _ _ _)
    | 8, _, ho =>
      cases ho
      refine stepG_of (fun g d hdep => ?_)
      exact step_binOp rfl (by exact ⟨_, rfl, by kernel_rfl⟩) _ _ _ _ _ _ _ rfl rfl rfl (fun v hw => neqB_f _ _ _ true)
    | 9, _, ho =>
      cases ho
      refine stepG_of (fun g d hdep => ?_)
      exact step_pick rfl trivial _ _ _ false rfl (by kernel_rfl) (by kernel_rfl)
    | 10, _, ho =>
      cases ho
      refine stepG_of (fun g d hdep => ?_)
      exact step_move rfl trivial _ rfl (by kernel_rfl)
    | 11, _, ho =>
      cases ho
      refine stepG_of (fun g d hdep => ?_)
      exact step_move rfl (by exact ⟨_, rfl, by kernel_rfl⟩) _ rfl (by kernel_rfl)
    | 12, _, ho =>
      cases ho
      exact stepG_call rfl (fun _ => (by exact ⟨_, rfl, by kernel_rfl⟩)) 12 _ _ (fun _ => [.pointer (some ⟨ve.heap.size, 0, none⟩)]) rfl (fun g => by kernel_rfl) (enters_of Tryz.func12 (by kernel_rfl) rfl) (fun g d V hJ hun hdep hcl => (image_any (hDj.carry hJ.be)).mono (by rintro e V' ⟨g9, c9, rfl, ho, hb⟩; refine ⟨(g9, c9), rfl, (fun j hj => match j, hj with | 12, hj => (by rw [hj] at hun; cases hun)  | 0, _ => rfl | 1, _ => rfl | 2, _ => rfl | 3, _ => rfl | 4, _ => rfl | 5, _ => rfl | 6, _ => rfl | 7, _ => rfl | 8, _ => rfl | 9, _ => rfl | 10, _ => rfl | 11, _ => rfl | 13, _ => rfl | 14, _ => rfl | 15, _ => rfl | 16, _ => rfl | 17, _ => rfl | _ + 18, _ => rfl), ?_⟩; show J9m vj d1.l (g9, c9) true V'; exact ⟨bel2 hJ.be hb, fun _ => ⟨b_own ho hDj.len.symm, row_lt0 ho⟩⟩))
    | 13, _, ho =>
      cases ho
      refine stepG_of (fun g d hdep => ?_)
      exact step_fieldAddr rfl (by exact ⟨_, rfl, by kernel_rfl⟩) _ _ _ _ rfl rfl (fun v hw => field_rd0 v _ _)
    | 14, _, ho =>
      cases ho
      refine stepG_of (fun g d hdep => ?_)
      exact step_load rfl (by exact ⟨_, rfl, by kernel_rfl⟩) _ _ _ rfl rfl (fun v hw => load_sl (hRj.carry hw.be).b)
    | 15, _, ho =>
      cases ho
      refine stepG_of (fun g d hdep => ?_)
      exact step_call rfl (by exact ⟨_, rfl, by kernel_rfl⟩) 11 _ _ [(.slice (some ⟨g.1, 0, none⟩) 256 g.2), (.slice (some ⟨rb, 0, none⟩) 256 256)] rfl (by kernel_rfl) (enters_of Tryz.func11 (by kernel_rfl) rfl) (fun v hw => by have h12 : d 12 = true := hdep 12 (by kernel_rfl); have hw2 := hw; rw [h12] at hw2; exact (same_im hw2 (hRj.carry hw2.be)).mono (by rintro e w' ⟨rfl, hb⟩; exact ⟨rfl, hw.carry hb⟩))
    | 16, _, ho =>
      cases ho
      refine stepG_of (fun g d hdep => ?_)
      exact step_unOp rfl (by exact ⟨_, rfl, by kernel_rfl⟩) _ _ _ _ rfl rfl (fun v hw => un_not true v)
    | 17, _, ho =>
      cases ho
      refine stepG_of (fun g d hdep => ?_)
      exact step_pick rfl trivial _ _ _ false rfl (by kernel_rfl) (by kernel_rfl)
  intro g d W hall hW
  first | refine hK _ _ ?_ | refine (‹∀ (a : Act) (w : World), Code.wp Tryz.prog _ _ a w → _›) _ _ ?_ | skip
  simp only [finL, List.getD_cons_zero, List.getD_cons_succ, Nat.zero_add, Nat.reduceAdd, List.setIfInBounds_toArray, List.set_cons_zero, List.set_cons_succ]
  clear hK
  have hbW : Below vj.heap.size vj W := hW.be
  have hLW : Below wA.heap.size wA W := bel2 hLj hbW
  have hNW := hNj.carry hbW
  have hgW := (hbW.block _ (lt_at hgj)).trans hgj
  obtain ⟨u1, hu1⟩ : ∃ V, W.alloc (.cells #[.slice none 0 0, .slice none 0 0, .slice none 0 0, .slice none 0 0, .slice none 0 0, .slice none 0 0, .slice none 0 0, .slice none 0 0, .slice none 0 0, .slice none 0 0, .slice none 0 0, .slice none 0 0, .slice none 0 0, .slice none 0 0, .slice none 0 0, .slice none 0 0, .slice none 0 0, .slice none 0 0, .slice none 0 0, .slice none 0 0, .slice none 0 0, .slice none 0 0, .slice none 0 0, .slice none 0 0] 78) = V := ⟨_, rfl⟩
  have hw1 : Below W.heap.size W u1 := by rw [← hu1]; exact al1' _ _
  have hK1 : Kel.Bb 78 u1 W.heap.size nil24 := by rw [← hu1]; exact new_at rfl
  have hs1 : u1.heap.size = W.heap.size + 1 := by rw [← hu1, World.size_alloc]
  obtain ⟨u2, hu2⟩ : ∃ V, u1.alloc (.cells #[.pointer (some ⟨xx, 0, none⟩), .int .i64 (n : Int), .int .i64 (f : Int), .int .i64 (s : Int), .bool true, .pointer (some ⟨vb.heap.size, 0, none⟩), .int .i64 bo.r.li, .int .i64 bo.r.ro, .int .i64 bo.r.ta, .int .i64 bo.r.li, .int .i64 bo.ro, .int .i64 bo.ta, .slice ad n cap, .int .u32 (wd (fullN n) 0 : Nat), .int .u32 (wd (fullN n) 1 : Nat), .int .u32 (wd (fullN n) 2 : Nat), .int .u32 (wd (fullN n) 3 : Nat), .int .i64 (n : Int), .int .i64 (f : Int), .int .i64 R, .slice (some ⟨g1, 0, none⟩) 1 1, .slice (some ⟨g2, 0, none⟩) 1 1, .slice (some ⟨g3, 0, none⟩) 1 c3, .pointer (some ⟨ve.heap.size, 0, none⟩), .pointer (some ⟨vb.heap.size, 0, none⟩), .pointer (some ⟨W.heap.size, 0, none⟩)] 80) = V := ⟨_, rfl⟩
  have hw2 : Below u1.heap.size u1 u2 := by rw [← hu2]; exact al1' _ _
  have hX2 : BX9 u2 (W.heap.size + 1) (⟨xx, (n : Int), (f : Int), s, vb.heap.size, bo, ad, n, cap, fullN n, R, g1, g2, g3, c3, ve.heap.size, W.heap.size⟩ : Bx9) := by rw [← hs1, ← hu2]; exact new_at rfl
  have hU : Below W.heap.size W u2 := bel2 hw1 hw2
  have hK2 := hK1.carry hw2
  have hLu := bel2 hLW hU
  obtain ⟨k0, k1, k2, k3, k4, k5, k6, k7⟩ := hAc u2 hLu
  have hvW : Below vh.heap.size vh W := bel2 hbj hbW
  have hbk := good_bok hO hG
  have hl0 := good_l hO hG
  have hev := good_ev hO hG
  have hsi := good_si (z := (⟨xx, (n : Int), (f : Int), s, vb.heap.size, bo, ad, n, cap, fullN n, R, g1, g2, g3, c3, ve.heap.size, W.heap.size⟩ : Bx9)) hO hG hbo.symm rfl hR.symm rfl
  rw [hbo] at hbk hl0 hev hsi
  have hbv : ve.heap.size ≤ vg.heap.size := Nat.le_trans (Nat.le_of_lt hltf) hTg.size
  have hpa := row_base (row_below hNok.pa hvW) hbv
  have hlk := looks_open (z := (⟨xx, (n : Int), (f : Int), s, vb.heap.size, bo, ad, n, cap, fullN n, R, g1, g2, g3, c3, ve.heap.size, W.heap.size⟩ : Bx9)) hNW rfl rfl hU hK2 hX2 (hNok.bk.carry hvW) (bk0_len _ _ _) hG.n1 hG.n2 hbk (show s < 100 by have := hG.sn; have := hG.n2; omega) (full_S128 hG.n2) (row_base (row_below hNok.hi hvW) hbv) hpa hev hl0 hsi
  clear hNj hNh hN hDj hRj hRO hTh hRg hRf hRe hDf
  go_wp2_with (refine wpList_load_row rfl 58 (.tmp 12) rfl vh.heap.size rfl 58 _ (0, 0) _ hgW undRN rfl infoRN ?_; unfold rnV)
  go_loopw [15] (fun i wz => i = .int .i64 0 ∧ wz = u2) (fun _ _ => 0)
  case atStart => exact ⟨rfl, rfl⟩
  case round =>
    obtain ⟨rfl, e9⟩ := hrel
    subst e9
    go_wp2_with (first | (go_at_call 14; (with_reducible refine hlk.mono ?_); rintro e u9 ⟨rfl, hK9, hb9, hX9⟩; have c9 : u9.cell? ⟨W.heap.size + 1, 25, none⟩ = some (.pointer (some ⟨W.heap.size, 0, none⟩)) := hX9.c 25 rfl; have hap := apartNE hK9 hb9.size) | (go_at_call 16; (with_reducible refine hap.mono ?_); rintro e u10 ⟨rfl, hb10⟩))
    go_ret
    exact ⟨rfl, bel2 hbA (hLW.trans ((hb9.trans hb10).mono hLW.size))⟩
set_option maxHeartbeats 40000000 in
set_option maxRecDepth 100000 in
theorem play_nb (w : World) {a b c : Int} {q : Int} {r : Rec} (hfit : ¬ Fit r q) {E : Int} {d1 : Dst} (hBad : Bad a b c (dOf d0.l) E d1) :
    Calls Tryz.prog 4 #[.agg #[.int .i64 a, .int .i64 b, .int .i64 c, .int .i64 q, .int .i64 r.li, .int .i64 r.ro, .int .i64 r.ta, .slice none 0 0], .bool true] w fun e w' => e = .returned (.bool true) ∧ Below w.heap.size w w' := by
  have hmx : Tryz.prog.follows .mixedOrders = true := by kernel_rfl
  have hen := fun V => rEnc_any r q V
  unfold rV at hen
  have hIl : (d0.l).length = 256 := d0_len
  have hIb : Byt d0.l := byt_zero 256
  have hO : Opd (dOf d0.l) := opd_of rfl rfl rfl
  obtain ⟨wA, hwA⟩ : ∃ wA, w.alloc (.cells #[.int .i64 a, .int .i64 b, .int .i64 c, .int .i64 q, .int .i64 r.li, .int .i64 r.ro, .int .i64 r.ta, .slice none 0 0] 26) = wA := ⟨_, rfl⟩
  have hbA : Below w.heap.size w wA := by rw [← hwA]; exact al1' _ _
  have gA : wA.heap[w.heap.size]? = some (.cells #[.int .i64 a, .int .i64 b, .int .i64 c, .int .i64 q, .int .i64 r.li, .int .i64 r.ro, .int .i64 r.ta, .slice none 0 0] 26 (0, 0)) := by rw [← hwA]; exact new_at rfl
  have hAc := fun V (hb : Below wA.heap.size wA V) => ask_cells ((hb.block _ (lt_at gA)).trans gA)
  obtain ⟨_, _, _, _, _, _, _, k7⟩ := hAc wA (Below.refl _ _)
  go_enter Tryz.func4, Tryz.ntmps4
  go_wp2_with (first
    | (have m := hgi; refine wpList_store_row rfl 58 (.tmp 12) (.tmp 65) rfl vh.heap.size nZ rfl rfl 58 _ hgi infoRN rfl (by simp [nZ, Value.oneCell']) ?_; obtain ⟨vj, hvj⟩ : ∃ vj, vi.setRow vh.heap.size nZ = vj := ⟨_, rfl⟩; have hgj : vj.heap[vh.heap.size]? = some (.cells nZ 58 (0, 0)) := (by rw [← hvj]; exact setRow_heap _ _ _ _ _ _ hgi); have hbj : Below vh.heap.size vh vj := (by rw [← hvj]; exact below_row hbi (Nat.le_refl _) _); rw [hvj])
    | (go_at_call 10; (with_reducible refine hrv.mono ?_); rintro e vh ⟨rfl, hRO⟩; obtain ⟨vi, hvi⟩ : ∃ vi, vh.alloc (.cells nZ 58) = vi := ⟨_, rfl⟩; have hgi : vi.heap[vh.heap.size]? = some (.cells nZ 58 (0, 0)) := (by rw [← hvi]; exact new_at rfl); have hbi : Below vh.heap.size vh vi := (by rw [← hvi]; exact al1' _ _); have hTh := hRO.tf; have y1 := hBb.size; have y2 := hbB.size; have y3 := hLg.size; have hlb : wA.heap.size ≤ vb.heap.size := (by omega); have hrb : wA.heap.size ≤ rb := Nat.le_trans y2 hrg; have hLh : Below wA.heap.size wA vh := hLg.trans (hTh.below hlb hrb y3); clear k7; unfold nZ at hvi ⊢)
    | (go_at_call 9; (with_reducible refine hpv.mono ?_); rintro e vg ⟨rfl, hDg, hTg⟩; have hne1 : vb.heap.size ≠ ve.heap.size := (fun e => by have := lt_at hgl3; omega); have hne2 : rb ≠ ve.heap.size := (fun e => by have := lt_at hrw3; omega); have hRg := hRf.same (hTg.block _ hRf.lt.1 hne1) (hTg.block _ hRf.lt.2 hne2); have hLg : Below wA.heap.size wA vg := TpZ.young hLf hTg hLe.size; clear k0 k1 k2 k3 k4 k5 k6 k7; obtain ⟨k0, k1, k2, k3, k4, k5, k6, k7⟩ := hAc vg hLg; have hrv := hBad.ro _ _ _ _ _ hRg)
    | (go_at_call 8; (with_reducible refine hof.mono ?_); rintro e vf ⟨rfl, hDf, hltf, hBf⟩; have hRf := hRe.carry hBf; have hLf : Below wA.heap.size wA vf := bel2 hLe hBf; clear k0 k1 k2 k3 k4 k5 k6 k7; obtain ⟨k0, k1, k2, k3, k4, k5, k6, k7⟩ := hAc vf hLf; have hpv := hBad.po _ _ hDf)
    | (go_at_call 7; (with_reducible refine hen1.mono ?_); rintro e ve ⟨-, hno, hbd⟩; obtain rfl := hno hfit; have hgl3 := (hbd.block _ (lt_at hgl)).trans hgl; have hrw3 := (hbd.block _ (lt_at hrw)).trans hrw; have hBe : Below uB.heap.size uB ve := bel2 hBc hbd; have hLe : Below wA.heap.size wA ve := bel2 hbB hBe; have cl1 := cell_at hgl3 0; simp at cl1; have hRe : RfD ve vb.heap.size 0 uB.heap.size rb 256 (dOf d0.l) := ⟨cell_at hgl3 0, cell_at hgl3 1, cell_at hgl3 2, cell_at hgl3 3, list_ownO hrw3 hIl hrg, ⟨_, hgl3⟩, hIl, hIb⟩; have hof := of_ok rb 0 256 d0.l ve (lt_at hrw3) (b_own (list_ownO (base := 0) hrw3 hIl (Nat.zero_le _)) (Eq.symm hIl)) hIl hIb (Nat.le_refl _))
    | (have m := hgz; refine wpList_store_row rfl 32 (.tmp 5) (.tmp 23) rfl vb.heap.size #[.slice (some ⟨rb, 0, none⟩) 256 256, .bool false, .int .i64 (-1), .int .i64 0] rfl rfl 32 _ hgz info_rd rfl (by simp [Value.oneCell']) ?_; obtain ⟨vc, hvc⟩ : ∃ vc, vz.setRow vb.heap.size #[.slice (some ⟨rb, 0, none⟩) 256 256, .bool false, .int .i64 (-1), .int .i64 0] = vc := ⟨_, rfl⟩; have hgl : vc.heap[vb.heap.size]? = some (.cells #[.slice (some ⟨rb, 0, none⟩) 256 256, .bool false, .int .i64 (-1), .int .i64 0] 32 (0, 0)) := (by rw [← hvc]; exact setRow_heap _ _ _ _ _ _ hgz); have hbc : Below vb.heap.size vb vc := (by rw [← hvc]; exact below_row hbz (Nat.le_refl _) _); have hBc := bel2 hBb hbc; have hLc : Below wA.heap.size wA vc := bel2 hbB hBc; have hrw := (hbc.block _ (row_lt0 hrow)).trans (own_listO hrow); clear k7; obtain ⟨k0, k1, k2, k3, k4, k5, k6, k7⟩ := hAc vc hLc; have hen1 := hen vc; rw [hvc])
    | (go_at_call 6; (with_reducible refine hrn.mono ?_); rintro e vb ⟨rb, rfl, hrg, hrow, hBb⟩; obtain ⟨vz, hvz⟩ : ∃ vz, vb.alloc (.cells #[.slice none 0 0, .bool false, .int .i64 0, .int .i64 0] 32) = vz := ⟨_, rfl⟩; have hgz : vz.heap[vb.heap.size]? = some (.cells #[.slice none 0 0, .bool false, .int .i64 0, .int .i64 0] 32 (0, 0)) := (by rw [← hvz]; exact new_at rfl); have hbz : Below vb.heap.size vb vz := (by rw [← hvz]; exact al1' _ _))
    | (go_at_call 5; (with_reducible refine (nalive_any _).mono ?_); rintro e uB ⟨rfl, hbB⟩; have hrn := rnew_any uB; unfold rdV at hrn))
  rename_i hK
  have hLj : Below wA.heap.size wA vj := bel2 hLh hbj
  have hRj := hRO.rd.carry hbj
  have hlp : vb.heap.size < ve.heap.size ∧ rb < ve.heap.size := ⟨lt_at hgl3, lt_at hrw3⟩
  have hDh : Dk vh ve.heap.size d1 := ⟨(hTh.block _ hDg.lt (fun e => by omega) (fun e => by omega)).trans hDg.obj, hDg.len, hDg.byt⟩
  have hDj := hDh.carry hbj
  refine wp_region_any hmx ?_
  refine wpAny_tabG (G := (Nat × Nat)) (fun g i__ => ([(.int .i64 E), (.int .i64 E), (.bool false), (.bool false), (.int .i64 E), (.bool false), (.pointer none), (.bool false), (.bool false), (.bool false), (.bool false), (.pointer (some ⟨ve.heap.size, 0, none⟩)), (.slice (some ⟨g.1, 0, none⟩) 256 g.2), (.pointer (some ⟨vb.heap.size, 0, none⟩)), (.slice (some ⟨rb, 0, none⟩) 256 256), (.bool true), (.bool false), (.bool false)] : List Value).getD i__ undef) (fun y d V => J9m vj d1.l y (d 12) V) (by kernel_rfl) ((0, 0)) (show J9m vj d1.l (0, 0) false _ from ⟨(Below.refl _ _).drew, fun q => (by cases q)⟩) ?step3 ?fin3
  case step3 =>
    intro i o ho
    have hi : i < 18 := getElem?_lt ho
    match i, hi, ho with
    | 0, _, ho =>
      cases ho
      refine stepG_of (fun g d hdep => ?_)
      exact step_move rfl trivial _ rfl (by kernel_rfl)
    | 1, _, ho =>
      cases ho
      refine stepG_of (fun g d hdep => ?_)
      exact step_move rfl trivial _ rfl (by kernel_rfl)
    | 2, _, ho =>
      cases ho
      refine stepG_of (fun g d hdep => ?_)
      exact step_binOp rfl trivial _ _ _ _ _ _ _ rfl rfl rfl (fun v hw => neqK_f _ _)
    | 3, _, ho =>
      cases ho
      refine stepG_of (fun g d hdep => ?_)
      exact step_move rfl trivial _ rfl (by kernel_rfl)
    | 4, _, ho =>
      cases ho
      refine stepG_of (fun g d hdep => ?_)
      exact step_move rfl (by exact ⟨_, rfl, by kernel_rfl⟩) _ rfl (by kernel_rfl)
    | 5, _, ho =>
      cases ho
      refine stepG_of (fun g d hdep => ?_)
      exact step_binOp rfl (by exact ⟨_, rfl, by kernel_rfl⟩) _ _ _ _ _ _ _ rfl rfl rfl (fun v hw => (bin_eql0 .i64 E 0).trans (by simp [hBad.ne]))
    | 6, _, ho =>
      cases ho
      refine stepG_of (fun g d hdep => ?_)
      exact step_move rfl (by exact ⟨_, rfl, by kernel_rfl⟩) _ rfl (by kernel_rfl)
    | 7, _, ho =>
      cases ho
      refine stepG_of (fun g d hdep => ?_)
      exact step_binOp rfl (by exact ⟨_, rfl, by kernel_rfl⟩) _ _ _ _ _ _ _ rfl rfl rfl (fun v hw => neqP_n _ _ _)
    | 8, _, ho =>
      cases ho
      refine stepG_of (fun g d hdep => ?_)
      exact step_binOp rfl (by exact ⟨_, rfl, by kernel_rfl⟩) _ _ _ _ _ _ _ rfl rfl rfl (fun v hw => neqB_f _ _ _ false)
    | 9, _, ho =>
      cases ho
      refine stepG_of (fun g d hdep => ?_)
      exact step_pick rfl trivial _ _ _ false rfl (by kernel_rfl) (by kernel_rfl)
    | 10, _, ho =>
      cases ho
      refine stepG_of (fun g d hdep => ?_)
      exact step_move rfl trivial _ rfl (by kernel_rfl)
    | 11, _, ho =>
      cases ho
      refine stepG_of (fun g d hdep => ?_)
      exact step_move rfl (by exact ⟨_, rfl, by kernel_rfl⟩) _ rfl (by kernel_rfl)
    | 12, _, ho =>
      cases ho
      exact stepG_call rfl (fun _ => (by exact ⟨_, rfl, by kernel_rfl⟩)) 12 _ _ (fun _ => [.pointer (some ⟨ve.heap.size, 0, none⟩)]) rfl (fun g => by kernel_rfl) (enters_of Tryz.func12 (by kernel_rfl) rfl) (fun g d V hJ hun hdep hcl => (image_any (hDj.carry hJ.be)).mono (by rintro e V' ⟨g9, c9, rfl, ho, hb⟩; refine ⟨(g9, c9), rfl, (fun j hj => match j, hj with | 12, hj => (by rw [hj] at hun; cases hun)  | 0, _ => rfl | 1, _ => rfl | 2, _ => rfl | 3, _ => rfl | 4, _ => rfl | 5, _ => rfl | 6, _ => rfl | 7, _ => rfl | 8, _ => rfl | 9, _ => rfl | 10, _ => rfl | 11, _ => rfl | 13, _ => rfl | 14, _ => rfl | 15, _ => rfl | 16, _ => rfl | 17, _ => rfl | _ + 18, _ => rfl), ?_⟩; show J9m vj d1.l (g9, c9) true V'; exact ⟨bel2 hJ.be hb, fun _ => ⟨b_own ho hDj.len.symm, row_lt0 ho⟩⟩))
    | 13, _, ho =>
      cases ho
      refine stepG_of (fun g d hdep => ?_)
      exact step_fieldAddr rfl (by exact ⟨_, rfl, by kernel_rfl⟩) _ _ _ _ rfl rfl (fun v hw => field_rd0 v _ _)
    | 14, _, ho =>
      cases ho
      refine stepG_of (fun g d hdep => ?_)
      exact step_load rfl (by exact ⟨_, rfl, by kernel_rfl⟩) _ _ _ rfl rfl (fun v hw => load_sl (hRj.carry hw.be).b)
    | 15, _, ho =>
      cases ho
      refine stepG_of (fun g d hdep => ?_)
      exact step_call rfl (by exact ⟨_, rfl, by kernel_rfl⟩) 11 _ _ [(.slice (some ⟨g.1, 0, none⟩) 256 g.2), (.slice (some ⟨rb, 0, none⟩) 256 256)] rfl (by kernel_rfl) (enters_of Tryz.func11 (by kernel_rfl) rfl) (fun v hw => by have h12 : d 12 = true := hdep 12 (by kernel_rfl); have hw2 := hw; rw [h12] at hw2; exact (same_im hw2 (hRj.carry hw2.be)).mono (by rintro e w' ⟨rfl, hb⟩; exact ⟨rfl, hw.carry hb⟩))
    | 16, _, ho =>
      cases ho
      refine stepG_of (fun g d hdep => ?_)
      exact step_unOp rfl (by exact ⟨_, rfl, by kernel_rfl⟩) _ _ _ _ rfl rfl (fun v hw => un_not true v)
    | 17, _, ho =>
      cases ho
      refine stepG_of (fun g d hdep => ?_)
      exact step_pick rfl trivial _ _ _ false rfl (by kernel_rfl) (by kernel_rfl)
  intro g d W hall hW
  first | refine hK _ _ ?_ | refine (‹∀ (a : Act) (w : World), Code.wp Tryz.prog _ _ a w → _›) _ _ ?_ | skip
  simp only [finL, List.getD_cons_zero, List.getD_cons_succ, Nat.zero_add, Nat.reduceAdd, List.setIfInBounds_toArray, List.set_cons_zero, List.set_cons_succ]
  clear hK
  have hbW : Below vj.heap.size vj W := hW.be
  have hLW : Below wA.heap.size wA W := bel2 hLj hbW
  have hne := hBad.ne
  go_wp2
  go_ret
  exact ⟨rfl, bel2 hbA hLW⟩
set_option maxHeartbeats 40000000 in
set_option maxRecDepth 100000 in
theorem play_ng (w : World) {n f s : Nat} {q : Int} {r : Rec} (hfit : ¬ Fit r q) (hG : Good n f s (dOf d0.l)) :
    Calls Tryz.prog 4 #[.agg #[.int .i64 (n : Int), .int .i64 (f : Int), .int .i64 (s : Int), .int .i64 q, .int .i64 r.li, .int .i64 r.ro, .int .i64 r.ta, .slice none 0 0], .bool true] w fun e w' => e = .returned (.bool true) ∧ Below w.heap.size w w' := by
  have hmx : Tryz.prog.follows .mixedOrders = true := by kernel_rfl
  have hen := fun V => rEnc_any r q V
  unfold rV at hen
  have hIl : (d0.l).length = 256 := d0_len
  have hIb : Byt d0.l := byt_zero 256
  have hO : Opd (dOf d0.l) := opd_of rfl rfl rfl
  obtain ⟨wA, hwA⟩ : ∃ wA, w.alloc (.cells #[.int .i64 (n : Int), .int .i64 (f : Int), .int .i64 (s : Int), .int .i64 q, .int .i64 r.li, .int .i64 r.ro, .int .i64 r.ta, .slice none 0 0] 26) = wA := ⟨_, rfl⟩
  have hbA : Below w.heap.size w wA := by rw [← hwA]; exact al1' _ _
  have gA : wA.heap[w.heap.size]? = some (.cells #[.int .i64 (n : Int), .int .i64 (f : Int), .int .i64 (s : Int), .int .i64 q, .int .i64 r.li, .int .i64 r.ro, .int .i64 r.ta, .slice none 0 0] 26 (0, 0)) := by rw [← hwA]; exact new_at rfl
  have hAc := fun V (hb : Below wA.heap.size wA V) => ask_cells ((hb.block _ (lt_at gA)).trans gA)
  obtain ⟨_, _, _, _, _, _, _, k7⟩ := hAc wA (Below.refl _ _)
  go_enter Tryz.func4, Tryz.ntmps4
  go_wp2_with (first
    | (have m := hgi; refine wpList_store_row rfl 58 (.tmp 12) (.tmp 65) rfl vh.heap.size (rnV (n : Int) (f : Int) (s : Int) (.pointer (some ⟨vb.heap.size, 0, none⟩)) bo (.slice ad n cap) (fullN n) (n : Int) (f : Int) R (.slice (some ⟨g1, 0, none⟩) 1 1) (.slice (some ⟨g2, 0, none⟩) 1 1) (.slice (some ⟨g3, 0, none⟩) 1 c3)) rfl rfl 58 _ hgi infoRN rfl (by exact rnV_one ..) ?_; obtain ⟨vj, hvj⟩ : ∃ vj, vi.setRow vh.heap.size (rnV (n : Int) (f : Int) (s : Int) (.pointer (some ⟨vb.heap.size, 0, none⟩)) bo (.slice ad n cap) (fullN n) (n : Int) (f : Int) R (.slice (some ⟨g1, 0, none⟩) 1 1) (.slice (some ⟨g2, 0, none⟩) 1 1) (.slice (some ⟨g3, 0, none⟩) 1 c3)) = vj := ⟨_, rfl⟩; have hgj : vj.heap[vh.heap.size]? = some (.cells (rnV (n : Int) (f : Int) (s : Int) (.pointer (some ⟨vb.heap.size, 0, none⟩)) bo (.slice ad n cap) (fullN n) (n : Int) (f : Int) R (.slice (some ⟨g1, 0, none⟩) 1 1) (.slice (some ⟨g2, 0, none⟩) 1 1) (.slice (some ⟨g3, 0, none⟩) 1 c3)) 58 (0, 0)) := (by rw [← hvj]; exact setRow_heap _ _ _ _ _ _ hgi); have hbj : Below vh.heap.size vh vj := (by rw [← hvj]; exact below_row hbi (Nat.le_refl _) _); rw [hvj])
    | (go_at_call 10; (with_reducible refine hrv.mono ?_); rintro e vh ⟨ad, cap, g1, g2, g3, c3, rfl, hNok⟩; have hRO := hNok.ro; obtain ⟨vi, hvi⟩ : ∃ vi, vh.alloc (.cells nZ 58) = vi := ⟨_, rfl⟩; have hgi : vi.heap[vh.heap.size]? = some (.cells nZ 58 (0, 0)) := (by rw [← hvi]; exact new_at rfl); have hbi : Below vh.heap.size vh vi := (by rw [← hvi]; exact al1' _ _); have hTh := hRO.tf; have y1 := hBb.size; have y2 := hbB.size; have y3 := hLg.size; have hlb : wA.heap.size ≤ vb.heap.size := (by omega); have hrb : wA.heap.size ≤ rb := Nat.le_trans y2 hrg; have hLh : Below wA.heap.size wA vh := hLg.trans (hTh.below hlb hrb y3); clear k7; unfold nZ at hvi)
    | (go_at_call 9; (with_reducible refine hpv.mono ?_); rintro e vg ⟨xx, AA, rfl, hN, hAp, hxx, hTg⟩; have hne1 : vb.heap.size ≠ ve.heap.size := (fun e => by have := lt_at hgl3; omega); have hne2 : rb ≠ ve.heap.size := (fun e => by have := lt_at hrw3; omega); have hRg := hRf.same (hTg.block _ hRf.lt.1 hne1) (hTg.block _ hRf.lt.2 hne2); have hLg : Below wA.heap.size wA vg := TpZ.young hLf hTg hLe.size; clear k0 k1 k2 k3 k4 k5 k6 k7; obtain ⟨k0, k1, k2, k3, k4, k5, k6, k7⟩ := hAc vg hLg; have hrv := ro_good hO hG hRg; obtain ⟨bo, hbo⟩ : ∃ b, bO (dOf d0.l) = b := ⟨_, rfl⟩; obtain ⟨R, hR⟩ : ∃ R, (dOp (dOf d0.l)).b.ro + 1 = R := ⟨_, rfl⟩; rw [hbo, hR] at hrv)
    | (go_at_call 8; (with_reducible refine hof.mono ?_); rintro e vf ⟨rfl, hDf, hltf, hBf⟩; have hRf := hRe.carry hBf; have hLf : Below wA.heap.size wA vf := bel2 hLe hBf; clear k0 k1 k2 k3 k4 k5 k6 k7; obtain ⟨k0, k1, k2, k3, k4, k5, k6, k7⟩ := hAc vf hLf; have hpv := po_good hO hG hDf (Nat.le_refl _))
    | (go_at_call 7; (with_reducible refine hen1.mono ?_); rintro e ve ⟨-, hno, hbd⟩; obtain rfl := hno hfit; have hgl3 := (hbd.block _ (lt_at hgl)).trans hgl; have hrw3 := (hbd.block _ (lt_at hrw)).trans hrw; have hBe : Below uB.heap.size uB ve := bel2 hBc hbd; have hLe : Below wA.heap.size wA ve := bel2 hbB hBe; have cl1 := cell_at hgl3 0; simp at cl1; have hRe : RfD ve vb.heap.size 0 uB.heap.size rb 256 (dOf d0.l) := ⟨cell_at hgl3 0, cell_at hgl3 1, cell_at hgl3 2, cell_at hgl3 3, list_ownO hrw3 hIl hrg, ⟨_, hgl3⟩, hIl, hIb⟩; have hof := of_ok rb 0 256 d0.l ve (lt_at hrw3) (b_own (list_ownO (base := 0) hrw3 hIl (Nat.zero_le _)) (Eq.symm hIl)) hIl hIb (Nat.le_refl _))
    | (have m := hgz; refine wpList_store_row rfl 32 (.tmp 5) (.tmp 23) rfl vb.heap.size #[.slice (some ⟨rb, 0, none⟩) 256 256, .bool false, .int .i64 (-1), .int .i64 0] rfl rfl 32 _ hgz info_rd rfl (by simp [Value.oneCell']) ?_; obtain ⟨vc, hvc⟩ : ∃ vc, vz.setRow vb.heap.size #[.slice (some ⟨rb, 0, none⟩) 256 256, .bool false, .int .i64 (-1), .int .i64 0] = vc := ⟨_, rfl⟩; have hgl : vc.heap[vb.heap.size]? = some (.cells #[.slice (some ⟨rb, 0, none⟩) 256 256, .bool false, .int .i64 (-1), .int .i64 0] 32 (0, 0)) := (by rw [← hvc]; exact setRow_heap _ _ _ _ _ _ hgz); have hbc : Below vb.heap.size vb vc := (by rw [← hvc]; exact below_row hbz (Nat.le_refl _) _); have hBc := bel2 hBb hbc; have hLc : Below wA.heap.size wA vc := bel2 hbB hBc; have hrw := (hbc.block _ (row_lt0 hrow)).trans (own_listO hrow); clear k7; obtain ⟨k0, k1, k2, k3, k4, k5, k6, k7⟩ := hAc vc hLc; have hen1 := hen vc; rw [hvc])
    | (go_at_call 6; (with_reducible refine hrn.mono ?_); rintro e vb ⟨rb, rfl, hrg, hrow, hBb⟩; obtain ⟨vz, hvz⟩ : ∃ vz, vb.alloc (.cells #[.slice none 0 0, .bool false, .int .i64 0, .int .i64 0] 32) = vz := ⟨_, rfl⟩; have hgz : vz.heap[vb.heap.size]? = some (.cells #[.slice none 0 0, .bool false, .int .i64 0, .int .i64 0] 32 (0, 0)) := (by rw [← hvz]; exact new_at rfl); have hbz : Below vb.heap.size vb vz := (by rw [← hvz]; exact al1' _ _))
    | (go_at_call 5; (with_reducible refine (nalive_any _).mono ?_); rintro e uB ⟨rfl, hbB⟩; have hrn := rnew_any uB; unfold rdV at hrn))
  rename_i hK
  have hLj : Below wA.heap.size wA vj := bel2 hLh hbj
  have hRj := hRO.rd.carry hbj
  have hlp : vb.heap.size < ve.heap.size ∧ rb < ve.heap.size := ⟨lt_at hgl3, lt_at hrw3⟩
  have hNh := hN.tf hTh hlp.1 hlp.2
  have hNj := hNh.carry hbj
  obtain ⟨d1, hd1⟩ : ∃ d, (dOp (dOf d0.l)).d = d := ⟨_, rfl⟩
  have hDj : Dk vj ve.heap.size d1 := by
    have h1 := hNj.dk
    rw [hAp] at h1
    have e1 : (dOpen n f s (dOf d0.l)).d = d1 := by rw [← hd1]; show (dO (dOf d0.l)).d = _; rw [dO_good hO hG]
    rw [e1] at h1
    exact h1
  rw [hd1] at hRj
  refine wp_region_any hmx ?_
  refine wpAny_tabG (G := (Nat × Nat)) (fun g i__ => ([(.int .i64 0), (.int .i64 0), (.bool false), (.bool false), (.int .i64 0), (.bool true), (.pointer (some ⟨xx, 0, none⟩)), (.bool true), (.bool false), (.bool false), (.bool false), (.pointer (some ⟨ve.heap.size, 0, none⟩)), (.slice (some ⟨g.1, 0, none⟩) 256 g.2), (.pointer (some ⟨vb.heap.size, 0, none⟩)), (.slice (some ⟨rb, 0, none⟩) 256 256), (.bool true), (.bool false), (.bool false)] : List Value).getD i__ undef) (fun y d V => J9m vj d1.l y (d 12) V) (by kernel_rfl) ((0, 0)) (show J9m vj d1.l (0, 0) false _ from ⟨(Below.refl _ _).drew, fun q => (by cases q)⟩) ?step4 ?fin4
  case step4 =>
    intro i o ho
    have hi : i < 18 := getElem?_lt ho
    match i, hi, ho with
    | 0, _, ho =>
      cases ho
      refine stepG_of (fun g d hdep => ?_)
      exact step_move rfl trivial _ rfl (by kernel_rfl)
    | 1, _, ho =>
      cases ho
      refine stepG_of (fun g d hdep => ?_)
      exact step_move rfl trivial _ rfl (by kernel_rfl)
    | 2, _, ho =>
      cases ho
      refine stepG_of (fun g d hdep => ?_)
      exact step_binOp rfl trivial _ _ _ _ _ _ _ rfl rfl rfl (fun v hw => neqK_f _ _)
    | 3, _, ho =>
      cases ho
      refine stepG_of (fun g d hdep => ?_)
      exact step_move rfl trivial _ rfl (by kernel_rfl)
    | 4, _, ho =>
      cases ho
      refine stepG_of (fun g d hdep => ?_)
      exact step_move rfl (by exact ⟨_, rfl, by kernel_rfl⟩) _ rfl (by kernel_rfl)
    | 5, _, ho =>
      cases ho
      refine stepG_of (fun g d hdep => ?_)
      exact step_binOp rfl (by exact ⟨_, rfl, by kernel_rfl⟩) _ _ _ _ _ _ _ rfl rfl rfl (fun v hw => (bin_eql0 .i64 0 0).trans (by simp))
    | 6, _, ho =>
      cases ho
      refine stepG_of (fun g d hdep => ?_)
      exact step_move rfl (by exact ⟨_, rfl, by kernel_rfl⟩) _ rfl (by kernel_rfl)
    | 7, _, ho =>
      cases ho
      refine stepG_of (fun g d hdep => ?_)
      exact step_binOp rfl (by exact ⟨_, rfl, by kernel_rfl⟩) _ _ _ _ _ _ _ rfl rfl rfl (fun v hw => neqP_s _ _ _ _)
    | 8, _, ho =>
      cases ho
      refine stepG_of (fun g d hdep => ?_)
      exact step_binOp rfl (by exact ⟨_, rfl, by kernel_rfl⟩) _ _ _ _ _ _ _ rfl rfl rfl (fun v hw => neqB_f _ _ _ true)
    | 9, _, ho =>
      cases ho
      refine stepG_of (fun g d hdep => ?_)
      exact step_pick rfl trivial _ _ _ false rfl (by kernel_rfl) (by kernel_rfl)
    | 10, _, ho =>
      cases ho
      refine stepG_of (fun g d hdep => ?_)
      exact step_move rfl trivial _ rfl (by kernel_rfl)
    | 11, _, ho =>
      cases ho
      refine stepG_of (fun g d hdep => ?_)
      exact step_move rfl (by exact ⟨_, rfl, by kernel_rfl⟩) _ rfl (by kernel_rfl)
    | 12, _, ho =>
      cases ho
      exact stepG_call rfl (fun _ => (by exact ⟨_, rfl, by kernel_rfl⟩)) 12 _ _ (fun _ => [.pointer (some ⟨ve.heap.size, 0, none⟩)]) rfl (fun g => by kernel_rfl) (enters_of Tryz.func12 (by kernel_rfl) rfl) (fun g d V hJ hun hdep hcl => (image_any (hDj.carry hJ.be)).mono (by rintro e V' ⟨g9, c9, rfl, ho, hb⟩; refine ⟨(g9, c9), rfl, (fun j hj => match j, hj with | 12, hj => (by rw [hj] at hun; cases hun)  | 0, _ => rfl | 1, _ => rfl | 2, _ => rfl | 3, _ => rfl | 4, _ => rfl | 5, _ => rfl | 6, _ => rfl | 7, _ => rfl | 8, _ => rfl | 9, _ => rfl | 10, _ => rfl | 11, _ => rfl | 13, _ => rfl | 14, _ => rfl | 15, _ => rfl | 16, _ => rfl | 17, _ => rfl | _ + 18, _ => rfl), ?_⟩; show J9m vj d1.l (g9, c9) true V'; exact ⟨bel2 hJ.be hb, fun _ => ⟨b_own ho hDj.len.symm, row_lt0 ho⟩⟩))
    | 13, _, ho =>
      cases ho
      refine stepG_of (fun g d hdep => ?_)
      exact step_fieldAddr rfl (by exact ⟨_, rfl, by kernel_rfl⟩) _ _ _ _ rfl rfl (fun v hw => field_rd0 v _ _)
    | 14, _, ho =>
      cases ho
      refine stepG_of (fun g d hdep => ?_)
      exact step_load rfl (by exact ⟨_, rfl, by kernel_rfl⟩) _ _ _ rfl rfl (fun v hw => load_sl (hRj.carry hw.be).b)
    | 15, _, ho =>
      cases ho
      refine stepG_of (fun g d hdep => ?_)
      exact step_call rfl (by exact ⟨_, rfl, by kernel_rfl⟩) 11 _ _ [(.slice (some ⟨g.1, 0, none⟩) 256 g.2), (.slice (some ⟨rb, 0, none⟩) 256 256)] rfl (by kernel_rfl) (enters_of Tryz.func11 (by kernel_rfl) rfl) (fun v hw => by have h12 : d 12 = true := hdep 12 (by kernel_rfl); have hw2 := hw; rw [h12] at hw2; exact (same_im hw2 (hRj.carry hw2.be)).mono (by rintro e w' ⟨rfl, hb⟩; exact ⟨rfl, hw.carry hb⟩))
    | 16, _, ho =>
      cases ho
      refine stepG_of (fun g d hdep => ?_)
      exact step_unOp rfl (by exact ⟨_, rfl, by kernel_rfl⟩) _ _ _ _ rfl rfl (fun v hw => un_not true v)
    | 17, _, ho =>
      cases ho
      refine stepG_of (fun g d hdep => ?_)
      exact step_pick rfl trivial _ _ _ false rfl (by kernel_rfl) (by kernel_rfl)
  intro g d W hall hW
  first | refine hK _ _ ?_ | refine (‹∀ (a : Act) (w : World), Code.wp Tryz.prog _ _ a w → _›) _ _ ?_ | skip
  simp only [finL, List.getD_cons_zero, List.getD_cons_succ, Nat.zero_add, Nat.reduceAdd, List.setIfInBounds_toArray, List.set_cons_zero, List.set_cons_succ]
  clear hK
  have hbW : Below vj.heap.size vj W := hW.be
  have hLW : Below wA.heap.size wA W := bel2 hLj hbW
  have hNW := hNj.carry hbW
  have hgW := (hbW.block _ (lt_at hgj)).trans hgj
  obtain ⟨u1, hu1⟩ : ∃ V, W.alloc (.cells #[.slice none 0 0, .slice none 0 0, .slice none 0 0, .slice none 0 0, .slice none 0 0, .slice none 0 0, .slice none 0 0, .slice none 0 0, .slice none 0 0, .slice none 0 0, .slice none 0 0, .slice none 0 0, .slice none 0 0, .slice none 0 0, .slice none 0 0, .slice none 0 0, .slice none 0 0, .slice none 0 0, .slice none 0 0, .slice none 0 0, .slice none 0 0, .slice none 0 0, .slice none 0 0, .slice none 0 0] 78) = V := ⟨_, rfl⟩
  have hw1 : Below W.heap.size W u1 := by rw [← hu1]; exact al1' _ _
  have hK1 : Kel.Bb 78 u1 W.heap.size nil24 := by rw [← hu1]; exact new_at rfl
  have hs1 : u1.heap.size = W.heap.size + 1 := by rw [← hu1, World.size_alloc]
  obtain ⟨u2, hu2⟩ : ∃ V, u1.alloc (.cells #[.pointer (some ⟨xx, 0, none⟩), .int .i64 (n : Int), .int .i64 (f : Int), .int .i64 (s : Int), .bool true, .pointer (some ⟨vb.heap.size, 0, none⟩), .int .i64 bo.r.li, .int .i64 bo.r.ro, .int .i64 bo.r.ta, .int .i64 bo.r.li, .int .i64 bo.ro, .int .i64 bo.ta, .slice ad n cap, .int .u32 (wd (fullN n) 0 : Nat), .int .u32 (wd (fullN n) 1 : Nat), .int .u32 (wd (fullN n) 2 : Nat), .int .u32 (wd (fullN n) 3 : Nat), .int .i64 (n : Int), .int .i64 (f : Int), .int .i64 R, .slice (some ⟨g1, 0, none⟩) 1 1, .slice (some ⟨g2, 0, none⟩) 1 1, .slice (some ⟨g3, 0, none⟩) 1 c3, .pointer (some ⟨ve.heap.size, 0, none⟩), .pointer (some ⟨vb.heap.size, 0, none⟩), .pointer (some ⟨W.heap.size, 0, none⟩)] 80) = V := ⟨_, rfl⟩
  have hw2 : Below u1.heap.size u1 u2 := by rw [← hu2]; exact al1' _ _
  have hX2 : BX9 u2 (W.heap.size + 1) (⟨xx, (n : Int), (f : Int), s, vb.heap.size, bo, ad, n, cap, fullN n, R, g1, g2, g3, c3, ve.heap.size, W.heap.size⟩ : Bx9) := by rw [← hs1, ← hu2]; exact new_at rfl
  have hU : Below W.heap.size W u2 := bel2 hw1 hw2
  have hK2 := hK1.carry hw2
  have hLu := bel2 hLW hU
  obtain ⟨k0, k1, k2, k3, k4, k5, k6, k7⟩ := hAc u2 hLu
  have hvW : Below vh.heap.size vh W := bel2 hbj hbW
  have hbk := good_bok hO hG
  have hl0 := good_l hO hG
  have hev := good_ev hO hG
  have hsi := good_si (z := (⟨xx, (n : Int), (f : Int), s, vb.heap.size, bo, ad, n, cap, fullN n, R, g1, g2, g3, c3, ve.heap.size, W.heap.size⟩ : Bx9)) hO hG hbo.symm rfl hR.symm rfl
  rw [hbo] at hbk hl0 hev hsi
  have hbv : ve.heap.size ≤ vg.heap.size := Nat.le_trans (Nat.le_of_lt hltf) hTg.size
  have hpa := row_base (row_below hNok.pa hvW) hbv
  have hlk := looks_open (z := (⟨xx, (n : Int), (f : Int), s, vb.heap.size, bo, ad, n, cap, fullN n, R, g1, g2, g3, c3, ve.heap.size, W.heap.size⟩ : Bx9)) hNW rfl rfl hU hK2 hX2 (hNok.bk.carry hvW) (bk0_len _ _ _) hG.n1 hG.n2 hbk (show s < 100 by have := hG.sn; have := hG.n2; omega) (full_S128 hG.n2) (row_base (row_below hNok.hi hvW) hbv) hpa hev hl0 hsi
  clear hNj hNh hN hDj hRj hRO hTh hRg hRf hRe hDf
  go_wp2_with (refine wpList_load_row rfl 58 (.tmp 12) rfl vh.heap.size rfl 58 _ (0, 0) _ hgW undRN rfl infoRN ?_; unfold rnV)
  go_loopw [15] (fun i wz => i = .int .i64 0 ∧ wz = u2) (fun _ _ => 0)
  case atStart => exact ⟨rfl, rfl⟩
  case round =>
    obtain ⟨rfl, e9⟩ := hrel
    subst e9
    go_wp2_with (first | (go_at_call 14; (with_reducible refine hlk.mono ?_); rintro e u9 ⟨rfl, hK9, hb9, hX9⟩; have c9 : u9.cell? ⟨W.heap.size + 1, 25, none⟩ = some (.pointer (some ⟨W.heap.size, 0, none⟩)) := hX9.c 25 rfl; have hap := apartNE hK9 hb9.size) | (go_at_call 16; (with_reducible refine hap.mono ?_); rintro e u10 ⟨rfl, hb10⟩))
    go_ret
    exact ⟨rfl, bel2 hbA (hLW.trans ((hb9.trans hb10).mono hLW.size))⟩
theorem play_open (w : World) (a b c q : Int) (r : Rec) : Calls Tryz.prog 4 #[.agg #[.int .i64 a, .int .i64 b, .int .i64 c, .int .i64 q, .int .i64 r.li, .int .i64 r.ro, .int .i64 r.ta, .slice none 0 0], .bool true] w fun e w' => e = .returned (.bool true) ∧ Below w.heap.size w w' := by
  by_cases hfit : Fit r q
  · rcases bad_or (n := a) (f := b) (s := c) (d := dOf (imgO r q)) (opd_of rfl rfl rfl) with ⟨E, d1, h⟩ | ⟨n, f, s, rfl, rfl, rfl, h⟩
    · exact play_fb w hfit h
    · exact play_fg w hfit h
  · rcases bad_or (n := a) (f := b) (s := c) (d := dOf d0.l) (opd_of rfl rfl rfl) with ⟨E, d1, h⟩ | ⟨n, f, s, rfl, rfl, rfl, h⟩
    · exact play_nb w hfit h
    · exact play_ng w hfit h
theorem undAk : Tryz.prog.underlying 26 = some (.struct ((match Tryz.prog.underlying 26 with | some (.struct f) => f | _ => #[]))) := by kernel_rfl
theorem infoAk : (Tryz.prog.info? 26).map (·.size) = some 8 := by kernel_rfl
set_option maxHeartbeats 4000000 in
set_option maxRecDepth 100000 in
theorem opens_in (w : World) (a b c q : Int) (r : Rec) (ad : Option Addr) (m cap : Nat) : Calls Tryz.prog 3 #[.agg #[.int .i64 a, .int .i64 b, .int .i64 c, .int .i64 q, .int .i64 r.li, .int .i64 r.ro, .int .i64 r.ta, .slice ad m cap]] w fun e w' => e = .returned (.bool true) ∧ Below w.heap.size w w' := by
  obtain ⟨wA, hwA⟩ : ∃ wA, w.alloc (.cells #[.int .i64 a, .int .i64 b, .int .i64 c, .int .i64 q, .int .i64 r.li, .int .i64 r.ro, .int .i64 r.ta, .slice ad m cap] 26) = wA := ⟨_, rfl⟩
  have hbA : Below w.heap.size w wA := by rw [← hwA]; exact al1' _ _
  have gA : wA.heap[w.heap.size]? = some (.cells #[.int .i64 a, .int .i64 b, .int .i64 c, .int .i64 q, .int .i64 r.li, .int .i64 r.ro, .int .i64 r.ta, .slice ad m cap] 26 (0, 0)) := by rw [← hwA]; exact new_at rfl
  have c7 : wA.cell? ⟨w.heap.size, 7, none⟩ = some (.slice ad m cap) := (cell_at gA 7).trans rfl
  have z7 := thaw_at gA 7
  have g2 := heap_setCell_same _ _ 7 _ _ (.slice none 0 0) gA
  have hb2 : Below w.heap.size w (wA.setCell ⟨w.heap.size, 7, none⟩ (.slice none 0 0)) := hbA.setCell (p := ⟨w.heap.size, 7, none⟩) (Nat.le_refl _) _
  have hp := play_open (wA.setCell ⟨w.heap.size, 7, none⟩ (.slice none 0 0)) a b c q r
  go_enter Tryz.func3, Tryz.ntmps3
  go_wp2_with (first | (refine wpList_load_row rfl 26 (.tmp 1) rfl w.heap.size rfl 26 _ (0, 0) _ g2 undAk rfl infoAk ?_) | (go_at_call 4; (with_reducible refine hp.mono ?_); rintro e u ⟨rfl, hu⟩))
  go_ret
  exact ⟨rfl, bel2 hb2 hu⟩
end Go.Proofs.YtklnfbanfgdgcaaGreatDoor
namespace Go.Proofs.YtklnfbanfgdgcaaGreatDoor
open Go.ChangeShapes Go.WideShapes Go.ChangeAt Go.RowKit

theorem cellsRcA : Tryz.prog.cellsOf 23 = 3 := by kernel_rfl
theorem cellsSoA : Tryz.prog.cellsOf 24 = 1 := by kernel_rfl
theorem cellsAk : Tryz.prog.cellsOf 26 = 8 := by kernel_rfl
theorem ops_of_trod {H : Type} {enc : TypeId × Value → H} {W : World} {fuel : Nat} {c : Value} {x : DataW H × List MemPlace}
    (hf : DataW.trod enc Tryz.prog W 0 (fun _ => true) true fuel 24 [c] = some x) : ∃ (ad : Option Addr) (n cap : Nat), c = .slice ad n cap := by
  rcases Deep.open_slice Tryz.underlying24 hf with ⟨hcs, _⟩ | ⟨a, len, cap, m, n, D, Pl, hcs, _⟩
  · simp at hcs
    exact ⟨none, 0, 0, hcs⟩
  · simp at hcs
    exact ⟨_, _, _, hcs⟩
set_option maxRecDepth 100000 in
theorem open_ask {H : Type} {enc : TypeId × Value → H} {W : World} {base : Nat} {v : Value} {d : DataW H} {p : List MemPlace} (hval : Value.okWide Tryz.prog W .any base 26 v)
    (h : DataW.Trod enc Tryz.prog W 0 (fun _ => true) true 26 v d p) : ∃ (a b c q o t u : Int) (ad : Option Addr) (n cap : Nat), v = .agg #[.int .i64 a, .int .i64 b, .int .i64 c, .int .i64 q, .int .i64 o, .int .i64 t, .int .i64 u, .slice ad n cap] ∧ (Lit.int .i64 a).wf = true ∧ (Lit.int .i64 b).wf = true ∧ (Lit.int .i64 c).wf = true ∧ (Lit.int .i64 q).wf = true ∧ (Lit.int .i64 o).wf = true ∧ (Lit.int .i64 t).wf = true ∧ (Lit.int .i64 u).wf = true := by
  obtain ⟨cs, rfl, hsz, _⟩ : ∃ cs, v = .agg cs ∧ cs.size = Tryz.prog.cellsOf 26 ∧ Row.okWide Tryz.prog W .any base 26 cs := by
    simpa [Value.okWide, Tryz.underlying26] using hval
  rw [cellsAk] at hsz
  obtain ⟨l⟩ := cs
  obtain ⟨c0, c1, c2, c3, c4, c5, c6, c7, rfl⟩ : ∃ c0 c1 c2 c3 c4 c5 c6 c7, l = [c0, c1, c2, c3, c4, c5, c6, c7] := by
    match l, hsz with
    | [c0, c1, c2, c3, c4, c5, c6, c7], _ => exact ⟨_, _, _, _, _, _, _, _, rfl⟩
  obtain ⟨fuel, hf⟩ := h
  obtain ⟨xs, n, _, _, _, hlen, hfs⟩ := DataW.trod_struct Tryz.underlying26 hf
  match xs, hlen with
  | [y0, y1, y2, y3, y4, y5], _ =>
    have g0 := hfs 0 _ rfl
    have g1 := hfs 1 _ rfl
    have g2 := hfs 2 _ rfl
    have g3 := hfs 3 _ rfl
    have g4 := hfs 4 _ rfl
    have g5 := hfs 5 _ rfl
    simp [Value.cells, cellsIM, cellsRcA, cellsSoA] at g0 g1 g2 g3 g4 g5
    obtain ⟨x0, e0, _, w0⟩ := DataW.trod_int Tryz.underlying3 g0
    obtain ⟨x1, e1, _, w1⟩ := DataW.trod_int Tryz.underlying3 g1
    obtain ⟨x2, e2, _, w2⟩ := DataW.trod_int Tryz.underlying3 g2
    obtain ⟨x3, e3, _, w3⟩ := DataW.trod_int Tryz.underlying3 g3
    obtain ⟨z0, z1, z2, m, hx, _, hy0, hy1, hy2⟩ := Deep.trod_struct3 Tryz.underlying23 g4
    obtain ⟨x4, e4, _, w4⟩ := DataW.trod_int Tryz.underlying3 hy0
    obtain ⟨x5, e5, _, w5⟩ := DataW.trod_int Tryz.underlying3 hy1
    obtain ⟨x6, e6, _, w6⟩ := DataW.trod_int Tryz.underlying3 hy2
    simp [cellsIM] at e0 e1 e2 e3 e4 e5 e6
    subst e0 e1 e2 e3 e4 e5 e6
    obtain ⟨ad, k, cap, rfl⟩ := ops_of_trod g5
    exact ⟨x0, x1, x2, x3, x4, x5, x6, ad, k, cap, rfl, w0, w1, w2, w3, w4, w5, w6⟩
end Go.Proofs.YtklnfbanfgdgcaaGreatDoor
