/- A node in a world: its events, its block. -/
import Derived.Test.YtklnfbanfgdgcaaGreatDoorJnJ2
import Derived.Test.YtklnfbanfgdgcaaGreatDoorJnJ7
import Derived.Test.YtklnfbanfgdgcaaGreatDoorJnJ13
import Derived.Test.YtklnfbanfgdgcaaGreatDoorJnJ16
import Derived.Test.YtklnfbanfgdgcaaGreatDoorJnJ12
set_option maxHeartbeats 40000000
set_option maxRecDepth 100000
set_option linter.unusedVariables false
namespace Go.Proofs.YtklnfbanfgdgcaaGreatDoor
open Go.RowKit Go.Shelf Go.Lib
attribute [local go_sem] Oper.semAt_some

/-- An event. -/
structure Ev where
  k : Int
  nd : Int
  li : Int
  ro : Int
  ta : Int
  of : Int
  du : Int
  he : Nat
  un : Nat
def ecA (e : Ev) : Array Value := #[.int .i64 e.k, .int .i64 e.nd, .int .i64 e.li, .int .i64 e.ro, .int .i64 e.ta, .int .i64 e.of, .int .i64 e.du, .int .u32 (wd e.he 0 : Nat), .int .u32 (wd e.he 1 : Nat), .int .u32 (wd e.he 2 : Nat), .int .u32 (wd e.he 3 : Nat), .int .u32 (wd e.un 0 : Nat), .int .u32 (wd e.un 1 : Nat), .int .u32 (wd e.un 2 : Nat), .int .u32 (wd e.un 3 : Nat)]
def ec (e : Ev) : List Value := (ecA e).toList
def ecs (l : List Ev) : List Value := l.flatMap ec
theorem ec_len (e : Ev) : (ec e).length = 15 := rfl
theorem ecs_append (a b : List Ev) : ecs (a ++ b) = ecs a ++ ecs b := by simp [ecs]
theorem ecs_one1 (e : Ev) : ecs [e] = ec e := by simp [ecs]
theorem ecs_len : ∀ l : List Ev, (ecs l).length = l.length * 15
  | [] => rfl
  | x :: l => by
    have : ecs (x :: l) = ec x ++ ecs l := by simp [ecs]
    rw [this, List.length_append, ec_len, ecs_len l, List.length_cons]; omega
theorem ec_ones (e : Ev) : ∀ u ∈ ec e, u.oneCell' = true := by
  intro u hu
  simp only [ec, ecA, List.mem_cons, List.not_mem_nil, or_false] at hu
  rcases hu with h | h | h | h | h | h | h | h | h | h | h | h | h | h | h <;> subst h <;> rfl
theorem ecs_ones (l : List Ev) : ∀ u ∈ ecs l, u.oneCell' = true := by
  intro u hu
  simp only [ecs, List.mem_flatMap] at hu
  obtain ⟨e, _, he⟩ := hu
  exact ec_ones e u he
theorem life_any {W : World} {q : Nat} {P : Option Addr} {b : Bo} (h : Bt W q P b) : Calls Tryz.prog 105 #[.pointer (some ⟨q, 0, none⟩)] W fun e w' => e = .returned (.int .i64 b.r.li) ∧ Below W.heap.size W w' := by
  have hd := durable_any h
  unfold rV at hd
  have hfl := field_R0
  go_enter Tryz.func105, Tryz.ntmps105
  go_wp2_with (go_at_call 176; (with_reducible refine hd.mono ?_); rintro e u ⟨rfl, hu⟩)
  go_ret
  exact ⟨rfl, hu⟩
/-- A node's cells. -/
def nC (vb : Option Addr) (n f s : Int) (vk : Option Addr) (H : Nat) (vt : Option Addr) (vp : Value) : Array Value := #[.pointer vb, .int .i64 n, .int .i64 f, .int .i64 s, .pointer vk, .int .u32 (wd H 0 : Nat), .int .u32 (wd H 1 : Nat), .int .u32 (wd H 2 : Nat), .int .u32 (wd H 3 : Nat), .pointer vt, vp]
def Nb (W : World) (x : Nat) (vb : Option Addr) (n f s : Int) (vk : Option Addr) (H : Nat) (vt : Option Addr) (vp : Value) : Prop := W.heap[x]? = some (.cells (nC vb n f s vk H vt vp) 112 (0, 0))
section
variable {W V : World} {x : Nat} {vb : Option Addr} {n f s : Int} {vk : Option Addr} {H : Nat} {vt : Option Addr} {vp : Value}
theorem Nb.lt (h : Nb W x vb n f s vk H vt vp) : x < W.heap.size := lt_at h
theorem Nb.carry (h : Nb W x vb n f s vk H vt vp) (hb : Below W.heap.size W V) : Nb V x vb n f s vk H vt vp := (hb.block _ h.lt).trans h
theorem Nb.c0 (h : Nb W x vb n f s vk H vt vp) : W.cell? ⟨x, 0, none⟩ = some (.pointer vb) := (cell_at h 0).trans rfl
theorem Nb.c1 (h : Nb W x vb n f s vk H vt vp) : W.cell? ⟨x, 1, none⟩ = some (.int .i64 n) := (cell_at h 1).trans rfl
theorem Nb.c2 (h : Nb W x vb n f s vk H vt vp) : W.cell? ⟨x, 2, none⟩ = some (.int .i64 f) := (cell_at h 2).trans rfl
theorem Nb.c3 (h : Nb W x vb n f s vk H vt vp) : W.cell? ⟨x, 3, none⟩ = some (.int .i64 s) := (cell_at h 3).trans rfl
theorem Nb.c4 (h : Nb W x vb n f s vk H vt vp) : W.cell? ⟨x, 4, none⟩ = some (.pointer vk) := (cell_at h 4).trans rfl
theorem Nb.c5 (h : Nb W x vb n f s vk H vt vp) : W.cell? ⟨x, 5, none⟩ = some (.int .u32 (wd H 0 : Nat)) ∧ W.cell? ⟨x, 6, none⟩ = some (.int .u32 (wd H 1 : Nat)) ∧ W.cell? ⟨x, 7, none⟩ = some (.int .u32 (wd H 2 : Nat)) ∧ W.cell? ⟨x, 8, none⟩ = some (.int .u32 (wd H 3 : Nat)) := ⟨(cell_at h 5).trans rfl, (cell_at h 6).trans rfl, (cell_at h 7).trans rfl, (cell_at h 8).trans rfl⟩
theorem Nb.c9 (h : Nb W x vb n f s vk H vt vp) : W.cell? ⟨x, 9, none⟩ = some (.pointer vt) := (cell_at h 9).trans rfl
theorem Nb.c10 (h : Nb W x vb n f s vk H vt vp) : W.cell? ⟨x, 10, none⟩ = some vp := (cell_at h 10).trans rfl
end
theorem field_nd (W : World) (B : Nat) : (Instr.fieldAt 112 (.pointer (some ⟨B, 0, none⟩)) 0).run Tryz.prog W = .ok (.pointer (some ⟨B, 0, none⟩)) W ∧ (Instr.fieldAt 112 (.pointer (some ⟨B, 0, none⟩)) 1).run Tryz.prog W = .ok (.pointer (some ⟨B, 1, none⟩)) W ∧ (Instr.fieldAt 112 (.pointer (some ⟨B, 0, none⟩)) 2).run Tryz.prog W = .ok (.pointer (some ⟨B, 2, none⟩)) W ∧ (Instr.fieldAt 112 (.pointer (some ⟨B, 0, none⟩)) 3).run Tryz.prog W = .ok (.pointer (some ⟨B, 3, none⟩)) W ∧ (Instr.fieldAt 112 (.pointer (some ⟨B, 0, none⟩)) 4).run Tryz.prog W = .ok (.pointer (some ⟨B, 4, none⟩)) W ∧ (Instr.fieldAt 112 (.pointer (some ⟨B, 0, none⟩)) 5).run Tryz.prog W = .ok (.pointer (some ⟨B, 5, none⟩)) W ∧ (Instr.fieldAt 112 (.pointer (some ⟨B, 0, none⟩)) 6).run Tryz.prog W = .ok (.pointer (some ⟨B, 9, none⟩)) W ∧ (Instr.fieldAt 112 (.pointer (some ⟨B, 0, none⟩)) 7).run Tryz.prog W = .ok (.pointer (some ⟨B, 10, none⟩)) W := by
  refine ⟨?_, ?_, ?_, ?_, ?_, ?_, ?_, ?_⟩ <;> go_simp
theorem load_in {W : World} {B o : Nat} {z : Int} (h : W.cell? ⟨B, o, none⟩ = some (.int .i64 z)) : (Instr.loadAt 3 (.pointer (some ⟨B, o, none⟩))).run Tryz.prog W = .ok (.int .i64 z) W := by go_simp
theorem load_bt0 {W : World} {B o : Nat} {a : Option Addr} (h : W.cell? ⟨B, o, none⟩ = some (.pointer a)) : (Instr.loadAt 104 (.pointer (some ⟨B, o, none⟩))).run Tryz.prog W = .ok (.pointer a) W := by go_simp
theorem load_bk0 {W : World} {B o : Nat} {a : Option Addr} (h : W.cell? ⟨B, o, none⟩ = some (.pointer a)) : (Instr.loadAt 109 (.pointer (some ⟨B, o, none⟩))).run Tryz.prog W = .ok (.pointer a) W := by go_simp
theorem load_ta0 {W : World} {B o : Nat} {a : Option Addr} (h : W.cell? ⟨B, o, none⟩ = some (.pointer a)) : (Instr.loadAt 110 (.pointer (some ⟨B, o, none⟩))).run Tryz.prog W = .ok (.pointer a) W := by go_simp
theorem load_pe0 {W : World} {B o n c : Nat} {a : Option Addr} (h : W.cell? ⟨B, o, none⟩ = some (.slice a n c)) : (Instr.loadAt 56 (.pointer (some ⟨B, o, none⟩))).run Tryz.prog W = .ok (.slice a n c) W := by go_simp
theorem load_hd {W : World} {B : Nat} {H : Nat} (h : W.cell? ⟨B, 5, none⟩ = some (.int .u32 (wd H 0 : Nat)) ∧ W.cell? ⟨B, 6, none⟩ = some (.int .u32 (wd H 1 : Nat)) ∧ W.cell? ⟨B, 7, none⟩ = some (.int .u32 (wd H 2 : Nat)) ∧ W.cell? ⟨B, 8, none⟩ = some (.int .u32 (wd H 3 : Nat))) : (Instr.loadAt 51 (.pointer (some ⟨B, 5, none⟩))).run Tryz.prog W = .ok (sv H) W := by
  obtain ⟨h0, h1, h2, h3⟩ := h
  unfold sv
  go_simp
theorem field_ev (W : World) (B : Nat) : (Instr.fieldAt 121 (.pointer (some ⟨B, 0, none⟩)) 1).run Tryz.prog W = .ok (.pointer (some ⟨B, 1, none⟩)) W ∧ (Instr.fieldAt 121 (.pointer (some ⟨B, 0, none⟩)) 2).run Tryz.prog W = .ok (.pointer (some ⟨B, 2, none⟩)) W := by
  refine ⟨?_, ?_⟩ <;> go_simp
end Go.Proofs.YtklnfbanfgdgcaaGreatDoor
namespace Go.Proofs.YtklnfbanfgdgcaaGreatDoor
open Go.RowKit Go.Shelf Go.Lib
attribute [local go_sem] Oper.semAt_some

def evV (e : Ev) : Value := .agg (ecA e)
/-- The event as it is put down: by the node s, in the life i. -/
def Ev.at (e : Ev) (s i : Int) : Ev := ⟨e.k, s, i, e.ro, e.ta, e.of, e.du, e.he, e.un⟩
def Ev.half (e : Ev) (s i : Int) (a b : Bool) : Ev := ⟨e.k, if a = true then s else e.nd, if b = true then i else e.li, e.ro, e.ta, e.of, e.du, e.he, e.un⟩
def JV1 (w : World) (C : Array Value) (V : World) : Prop := V.heap[w.heap.size]? = some (.cells C 121 (0, 0)) ∧ Below w.heap.size w V
theorem JV1.set {w V : World} {C : Array Value} (h : JV1 w C V) (k : Nat) (z : Int) (hk : ∃ y, C[k]? = some y) : (Instr.storeAt 3 (.pointer (some ⟨w.heap.size, k, none⟩)) (.int .i64 z)).run Tryz.prog V = .ok () (V.setCell ⟨w.heap.size, k, none⟩ (.int .i64 z)) ∧ JV1 w (C.setIfInBounds k (.int .i64 z)) (V.setCell ⟨w.heap.size, k, none⟩ (.int .i64 z)) := by
  obtain ⟨y, hy⟩ := hk
  have c0 : V.cell? ⟨w.heap.size, k, none⟩ = some y := (cell_at h.1 k).trans hy
  have z0 := thaw_at h.1 k
  exact ⟨by go_simp, heap_setCell_same _ _ k _ _ _ h.1, h.2.setCell (Nat.le_refl _) _⟩
theorem infoV : (Tryz.prog.info? 121).map (fun i => (i.zero, i.size, i.bytes)) = some (some (evV ⟨0, 0, 0, 0, 0, 0, 0, 0, 0⟩), 15, 88) := by kernel_rfl
/-- While an event is put behind the others. -/
structure Je (w0 : World) (base x hb : Nat) (vb : Option Addr) (n f s : Int) (vk : Option Addr) (H : Nat) (vt : Option Addr) (ad : Option Addr) (cap : Nat) (l : List Ev) (e : Ev) (g : Nat × Option Addr × Nat) (d6 d7 d10 : Bool) (V : World) : Prop where
  obj : Nb V x vb n f s vk H vt (if d10 = true then .slice g.2.1 (l.length + 1) g.2.2 else .slice ad l.length cap)
  bx : V.heap[hb]? = some (.cells (ecA e) 121 (0, 0))
  r0 : d7 = false → V.ownsRow base 121 15 (.slice ad l.length cap) l.length (ecs l)
  r1 : d7 = true → V.ownsRow base 121 15 (.slice g.2.1 (l.length + 1) g.2.2) (l.length + 1) (ecs (l ++ [e]))
  bl : d6 = true → d7 = false → V.heap[g.1]? = some (.cells (ecA e) 121 (0, 0)) ∧ ob ad ≠ some g.1
  tn : Tn x (ob ad) (if d7 = true then ob g.2.1 else ob ad) w0 V
section
variable {w W V : World} {base x hb : Nat} {vb : Option Addr} {n f s : Int} {vk : Option Addr} {H : Nat} {vt : Option Addr} {ad : Option Addr} {cap : Nat} {l : List Ev} {e : Ev}
theorem bs1V (W : World) (e : Ev) : (Instr.buildSlice 56 1 #[(0, evV e)]).run Tryz.prog W = .ok (.slice (some ⟨W.heap.size, 0, none⟩) 1 1) (W.alloc (.cells (ecA e) 121)) := by
  unfold evV ecA
  go_simp
theorem load_evV {W : World} {B : Nat} (h : W.heap[B]? = some (.cells (ecA e) 121 (0, 0))) : (Instr.loadAt 121 (.pointer (some ⟨B, 0, none⟩))).run Tryz.prog W = .ok (evV e) W := by
  have c0 := cell_at h 0
  have c1 := cell_at h 1
  have c2 := cell_at h 2
  have c3 := cell_at h 3
  have c4 := cell_at h 4
  have c5 := cell_at h 5
  have c6 := cell_at h 6
  have c7 := cell_at h 7
  have c8 := cell_at h 8
  have c9 := cell_at h 9
  have c10 := cell_at h 10
  have c11 := cell_at h 11
  have c12 := cell_at h 12
  have c13 := cell_at h 13
  have c14 := cell_at h 14
  unfold ecA at c0 c1 c2 c3 c4 c5 c6 c7 c8 c9 c10 c11 c12 c13 c14
  simp at c0 c1 c2 c3 c4 c5 c6 c7 c8 c9 c10 c11 c12 c13 c14
  unfold evV ecA
  go_simp
theorem Je.start (h : Nb W x vb n f s vk H vt (.slice ad l.length cap)) (hx : W.heap[hb]? = some (.cells (ecA e) 121 (0, 0))) (hr : W.ownsRow base 121 15 (.slice ad l.length cap) l.length (ecs l)) (ht : Tn x (ob ad) (ob ad) w W) : Je w base x hb vb n f s vk H vt ad cap l e (0, none, 0) false false false W.drew :=
  ⟨h, hx, fun _ => row_below hr (Below.refl _ _).drew, fun e => (by cases e), fun e => (by cases e), ht.trans (Tn.of x _ (Below.refl _ _).drew)⟩
theorem Je.build {g : Nat × Option Addr × Nat} (h : Je w base x hb vb n f s vk H vt ad cap l e g false false false V) : Je w base x hb vb n f s vk H vt ad cap l e (V.heap.size, g.2) true false false (V.alloc (.cells (ecA e) 121)) := by
  have ha := al1' V (.cells (ecA e) 121)
  refine ⟨old_at h.obj, old_at h.bx, fun _ => row_below (h.r0 rfl) ha, fun e => by (cases e), fun _ _ => ⟨new_at rfl, fun e => ?_⟩, h.tn.alloc _⟩
  have := (row_lt2 (h.r0 rfl) V.heap.size (by rw [ob_eq]; exact e)).2
  omega
theorem Je.app {g : Nat × Option Addr × Nat} (h : Je w base x hb vb n f s vk H vt ad cap l e g true false false V) (hb0 : base ≤ V.heap.size) (hl : l.length ≤ 1000000) (hhb : ob ad ≠ some hb) (ty : TypeId) : ∃ a c V', (Builtin.append_ #[56, 56] ty #[.slice ad l.length cap, .slice (some ⟨g.1, 0, none⟩) 1 1]).run Tryz.prog V = .ok (.slice a (l.length + 1) c) V' ∧ Je w base x hb vb n f s vk H vt ad cap l e (g.1, a, c) true true false V' := by
  obtain ⟨ic, hic, hz0, hz1, hz2⟩ := info_parts infoV
  obtain ⟨hg, hne⟩ := h.bl rfl rfl
  obtain ⟨v', V', hr, ho, hgr, hn, hown⟩ := run_append_own_at (P := Tryz.prog) V base 56 ty 121 ic _ 15 88 Tryz.underlying56 hic hz0 hz1 hz2 rfl (by decide) _ l.length (ecs l) (h.r0 rfl) ⟨g.1, 0, none⟩ 1 1 (ecs [e]) (by rw [ecs_len]; rfl) (fun j u hj => by
    rw [add_pl, Nat.zero_add, cell_at hg]
    rw [ecs_one1, ec] at hj
    simpa using hj) (ecs_ones _) (by unfold maxLen; omega) (by omega) hb0
  rw [← ecs_append] at ho
  rcases own_form ho with ⟨_, e2⟩ | ⟨g2, c, e1, _⟩
  · omega
  · subst e1
    rw [ob_eq] at hgr
    refine ⟨_, c, V', hr, (hgr.block x (lt_at h.obj) (fun e => ?_)).trans h.obj, (hgr.block hb (lt_at h.bx) (fun e => hhb e.symm)).trans h.bx, fun e => (by cases e), fun _ => ho, fun _ e => (by cases e), ?_⟩
    · exact row_type (h.r0 rfl) h.obj (by decide) (by rw [ob_eq]; exact e.symm)
    · refine h.tn.trans ⟨hgr.os, hgr.tape, hgr.output, hgr.size, fun k hk _ h2 => hgr.block k hk h2, ?_⟩
      rcases hown with k | k
      · exact .inl ((ob_eq _ _ _).symm.trans (k.trans (ob_eq _ _ _)))
      · exact .inr fun b e => by
          have : some b = some V.heap.size := e.symm.trans ((ob_eq _ _ _).symm.trans k)
          cases this
          exact Nat.le_refl _
theorem Nb.put10 {n' : Nat} (h : Nb W x vb n f s vk H vt (.slice ad n' cap)) (a : Option Addr) (m c : Nat) : (Instr.storeAt 56 (.pointer (some ⟨x, 10, none⟩)) (.slice a m c)).run Tryz.prog W = .ok () (W.setCell ⟨x, 10, none⟩ (.slice a m c)) ∧ Nb (W.setCell ⟨x, 10, none⟩ (.slice a m c)) x vb n f s vk H vt (.slice a m c) := by
  have c0 := h.c10
  have z0 := thaw_at h 10
  refine ⟨by go_simp, ?_⟩
  have := heap_setCell_same _ _ 10 _ _ (.slice a m c) h
  exact this.trans rfl
theorem Je.store {g : Nat × Option Addr × Nat} (h : Je w base x hb vb n f s vk H vt ad cap l e g true true false V) (hxb : hb ≠ x) : ∃ V', (Instr.storeAt 56 (.pointer (some ⟨x, 10, none⟩)) (.slice g.2.1 (l.length + 1) g.2.2)).run Tryz.prog V = .ok () V' ∧ Je w base x hb vb n f s vk H vt ad cap l e g true true true V' := by
  have h0 := h.obj
  rw [if_neg (by simp)] at h0
  obtain ⟨h1, h2⟩ := h0.put10 g.2.1 (l.length + 1) g.2.2
  refine ⟨_, h1, h2, (Below.heap_setCell _ _ _ _ hxb).trans h.bx, fun e => (by cases e), fun _ => row_other (h.r1 rfl) (row_type (h.r1 rfl) h.obj (by decide)) _, fun _ e => (by cases e), h.tn.set 10 _⟩
end
set_option maxHeartbeats 4000000 in
set_option maxRecDepth 100000 in
theorem remember_any {w : World} {base x q : Nat} {P : Option Addr} {b : Bo} {n f s : Int} {vk : Option Addr} {H : Nat} {vt : Option Addr} {ad : Option Addr} {cap : Nat} {l : List Ev} (h : Nb w x (some ⟨q, 0, none⟩) n f s vk H vt (.slice ad l.length cap)) (hB : Bt w q P b) (hr : w.ownsRow base 121 15 (.slice ad l.length cap) l.length (ecs l)) (hb0 : base ≤ w.heap.size) (hl : l.length ≤ 1000000) (e : Ev) :
    Calls Tryz.prog 30 #[.pointer (some ⟨x, 0, none⟩), evV e] w fun r w' => r = .returned (.tuple #[]) ∧ ∃ ad' cap', Nb w' x (some ⟨q, 0, none⟩) n f s vk H vt (.slice ad' (l.length + 1) cap') ∧ w'.ownsRow base 121 15 (.slice ad' (l.length + 1) cap') (l.length + 1) (ecs (l ++ [e.at s b.r.li])) ∧ Tn x (ob ad) (ob ad') w w' := by
  have hmx : Tryz.prog.follows .mixedOrders = true := by kernel_rfl
  obtain ⟨e', he'⟩ : ∃ e', e.at s b.r.li = e' := ⟨_, rfl⟩
  rw [he']
  have HE : Hid (e.at s b.r.li = e') := he'
  clear he'
  obtain ⟨w1, hw1⟩ : ∃ w1, w.alloc (.cells (ecA e) 121) = w1 := ⟨_, rfl⟩
  have hj1 : JV1 w (ecA e) w1 := by rw [← hw1]; exact ⟨new_at rfl, al1' _ _⟩
  have hw1' : w.alloc (.cells #[.int .i64 e.k, .int .i64 e.nd, .int .i64 e.li, .int .i64 e.ro, .int .i64 e.ta, .int .i64 e.of, .int .i64 e.du, .int .u32 (wd e.he 0 : Nat), .int .u32 (wd e.he 1 : Nat), .int .u32 (wd e.he 2 : Nat), .int .u32 (wd e.he 3 : Nat), .int .u32 (wd e.un 0 : Nat), .int .u32 (wd e.un 1 : Nat), .int .u32 (wd e.un 2 : Nat), .int .u32 (wd e.un 3 : Nat)] 121) = w1 := hw1
  clear hw1
  unfold evV ecA
  go_enter Tryz.func30, Tryz.ntmps30
  go_wp2
  rename_i hK
  refine wp_region_any hmx ?_
  refine wpAny_tabG (G := Unit) (fun g i__ => ([(.pointer (some ⟨x, 0, none⟩)), (.pointer (some ⟨x, 0, none⟩)), (.pointer (some ⟨x, 3, none⟩)), (.int .i64 s), (.pointer (some ⟨x, 0, none⟩)), (.pointer (some ⟨x, 0, none⟩)), (.pointer (some ⟨x, 0, none⟩)), (.pointer (some ⟨q, 0, none⟩)), (.int .i64 b.r.li), (.pointer (some ⟨w.heap.size, 1, none⟩)), undef, (.pointer (some ⟨w.heap.size, 2, none⟩)), undef] : List Value).getD i__ undef) (fun _ d V => JV1 w (ecA (e.half s b.r.li (d 10) (d 12))) V) (by kernel_rfl) (()) (show JV1 w (ecA (e.half s b.r.li false false)) _ from ⟨hj1.1, hj1.2.drew⟩) ?step4 ?fin4
  case step4 =>
    intro i o ho
    have hi : i < 13 := getElem?_lt ho
    match i, hi, ho with
    | 0, _, ho =>
      cases ho
      refine stepG_of (fun g d hdep => ?_)
      exact step_move rfl trivial _ rfl (by kernel_rfl)
    | 1, _, ho =>
      cases ho
      refine stepG_of (fun g d hdep => ?_)
      exact step_nilCheck rfl trivial _ _ _ rfl rfl rfl
    | 2, _, ho =>
      cases ho
      refine stepG_of (fun g d hdep => ?_)
      exact step_fieldAddr rfl trivial _ _ _ _ rfl rfl (fun v hw => (field_nd v _).2.2.2.1)
    | 3, _, ho =>
      cases ho
      refine stepG_of (fun g d hdep => ?_)
      exact step_load rfl trivial _ _ _ rfl rfl (fun v hw => load_in (h.carry hw.2).c3)
    | 4, _, ho =>
      cases ho
      refine stepG_of (fun g d hdep => ?_)
      exact step_move rfl trivial _ rfl (by kernel_rfl)
    | 5, _, ho =>
      cases ho
      refine stepG_of (fun g d hdep => ?_)
      exact step_nilCheck rfl trivial _ _ _ rfl rfl rfl
    | 6, _, ho =>
      cases ho
      refine stepG_of (fun g d hdep => ?_)
      exact step_fieldAddr rfl trivial _ _ _ _ rfl rfl (fun v hw => (field_nd v _).1)
    | 7, _, ho =>
      cases ho
      refine stepG_of (fun g d hdep => ?_)
      exact step_load rfl trivial _ _ _ rfl rfl (fun v hw => load_bt0 (h.carry hw.2).c0)
    | 8, _, ho =>
      cases ho
      refine stepG_of (fun g d hdep => ?_)
      exact step_call rfl trivial 105 _ _ [(.pointer (some ⟨q, 0, none⟩))] rfl (by kernel_rfl) (enters_of Tryz.func105 (by kernel_rfl) rfl) (fun v hw => (life_any (hB.carry hw.2)).mono (by rintro e w' ⟨rfl, hb⟩; exact ⟨rfl, (hb.block _ (lt_at hw.1)).trans hw.1, bel2 hw.2 hb⟩))
    | 9, _, ho =>
      cases ho
      refine stepG_of (fun g d hdep => ?_)
      exact step_fieldAddr rfl trivial _ _ _ _ rfl rfl (fun v hw => (field_ev v _).1)
    | 10, _, ho =>
      cases ho
      refine stepG_of (fun g d hdep => ?_)
      exact step_store rfl trivial rfl _ _ _ _ _ rfl rfl rfl (fun V hw => ⟨_, hw.set 1 s ⟨_, rfl⟩⟩)
    | 11, _, ho =>
      cases ho
      refine stepG_of (fun g d hdep => ?_)
      exact step_fieldAddr rfl trivial _ _ _ _ rfl rfl (fun v hw => (field_ev v _).2)
    | 12, _, ho =>
      cases ho
      refine stepG_of (fun g d hdep => ?_)
      exact step_store rfl trivial rfl _ _ _ _ _ rfl rfl rfl (fun V hw => ⟨_, hw.set 2 b.r.li ⟨_, rfl⟩⟩)
  intro g d W hall hW
  first | refine hK _ _ ?_ | refine (‹∀ (a : Act) (w : World), Code.wp Tryz.prog _ _ a w → _›) _ _ ?_ | skip
  simp only [finL, List.getD_cons_zero, List.getD_cons_succ, Nat.zero_add, Nat.reduceAdd, List.setIfInBounds_toArray, List.set_cons_zero, List.set_cons_succ]
  rw [hall 10 (by decide), hall 12 (by decide)] at hW
  have hbx : W.heap[w.heap.size]? = some (.cells (ecA e') 121 (0, 0)) := by rw [← HE.out]; exact hW.1
  have hN1 := h.carry hW.2
  have hst := Je.start (w := w) hN1 hbx (row_below hr hW.2) (Tn.of x _ hW.2)
  have hlt := h.lt
  have hhb : ob ad ≠ some w.heap.size := fun e => by have := (row_lt2 hr w.heap.size (by rw [ob_eq]; exact e)).2; omega
  have hxb : w.heap.size ≠ x := by omega
  have hbW := hW.2.size
  clear hK
  clear hW hj1 hw1'
  go_wp2
  try rename_i hK
  refine wp_region_any hmx ?_
  refine wpAny_tabG (G := (Nat × Option Addr × Nat)) (fun g i__ => ([(.pointer (some ⟨x, 0, none⟩)), (.pointer (some ⟨x, 0, none⟩)), (.pointer (some ⟨x, 0, none⟩)), (.pointer (some ⟨x, 10, none⟩)), (.slice ad l.length cap), (evV e'), (.slice (some ⟨g.1, 0, none⟩) 1 1), (.slice g.2.1 (l.length + 1) g.2.2), (.pointer (some ⟨x, 0, none⟩)), (.pointer (some ⟨x, 10, none⟩)), undef] : List Value).getD i__ undef) (fun g d V => Je w base x w.heap.size (some ⟨q, 0, none⟩) n f s vk H vt ad cap l e' g (d 6) (d 7) (d 10) V) (by kernel_rfl) ((0, none, 0)) hst ?step5 ?fin5
  case step5 =>
    intro i o ho
    have hi : i < 11 := getElem?_lt ho
    match i, hi, ho with
    | 0, _, ho =>
      cases ho
      refine stepG_of (fun g d hdep => ?_)
      exact step_move rfl trivial _ rfl (by kernel_rfl)
    | 1, _, ho =>
      cases ho
      refine stepG_of (fun g d hdep => ?_)
      exact step_move rfl trivial _ rfl (by kernel_rfl)
    | 2, _, ho =>
      cases ho
      refine stepG_of (fun g d hdep => ?_)
      exact step_nilCheck rfl trivial _ _ _ rfl rfl rfl
    | 3, _, ho =>
      cases ho
      refine stepG_of (fun g d hdep => ?_)
      exact step_fieldAddr rfl trivial _ _ _ _ rfl rfl (fun v hw => (field_nd v _).2.2.2.2.2.2.2)
    | 4, _, ho =>
      cases ho
      exact stepG_ofC (fun g d hun hdep hcl => step_load rfl trivial _ _ _ rfl rfl (fun v hw => load_pe0 (by have h10 : d 10 = false := (by cases h : d 10 with | false => rfl | true => exact absurd (hcl 10 _ rfl h 4 (by kernel_rfl)) (by rw [hun]; simp)); have := hw.obj.c10; rw [h10] at this; exact this)))
    | 5, _, ho =>
      cases ho
      refine stepG_of (fun g d hdep => ?_)
      exact step_load rfl trivial _ _ _ rfl rfl (fun v hw => load_evV hw.bx)
    | 6, _, ho =>
      cases ho
      exact stepG_buildG rfl rfl _ _ (fun g => evV e') rfl (fun g => by kernel_rfl) (fun g d V hJ hun hdep hcl => by have h7 : d 7 = false := (by cases h : d 7 with | false => rfl | true => exact absurd (hcl 7 _ rfl h 6 (by kernel_rfl)) (by rw [hun]; simp)); have h10 : d 10 = false := (by cases h : d 10 with | false => rfl | true => exact absurd (hcl 10 _ rfl h 6 (by kernel_rfl)) (by rw [hun]; simp)); have hJ' := hJ; rw [hun, h7, h10] at hJ'; refine ⟨(V.heap.size, g.2), _, bs1V V e', (fun j hj => match j, hj with | 6, hj => (by rw [hj] at hun; cases hun)  | 0, _ => rfl | 1, _ => rfl | 2, _ => rfl | 3, _ => rfl | 4, _ => rfl | 5, _ => rfl | 7, _ => rfl | 8, _ => rfl | 9, _ => rfl | 10, _ => rfl | _ + 11, _ => rfl), ?_⟩; show Je w base x w.heap.size (some ⟨q, 0, none⟩) n f s vk H vt ad cap l e' _ true (d 7) (d 10) _; rw [h7, h10]; exact hJ'.build)
    | 7, _, ho =>
      cases ho
      exact stepG_append rfl rfl _ _ _ (fun _ => .slice ad l.length cap) (fun g => .slice (some ⟨g.1, 0, none⟩) 1 1) rfl (fun g => by kernel_rfl) (fun g => by kernel_rfl) (fun g d V hJ hun hdep hcl => by have h6 : d 6 = true := hdep 6 (by kernel_rfl); have h10 : d 10 = false := (by cases h : d 10 with | false => rfl | true => exact absurd (hcl 10 _ rfl h 7 (by kernel_rfl)) (by rw [hun]; simp)); have hJ' := hJ; rw [h6, hun, h10] at hJ'; obtain ⟨a, c, V', hr, hA⟩ := hJ'.app (Nat.le_trans hb0 hJ'.tn.size) hl hhb 56; refine ⟨(g.1, a, c), V', hr, (fun j hj => match j, hj with | 7, hj => (by rw [hj] at hun; cases hun)  | 0, _ => rfl | 1, _ => rfl | 2, _ => rfl | 3, _ => rfl | 4, _ => rfl | 5, _ => rfl | 6, _ => rfl | 8, _ => rfl | 9, _ => rfl | 10, _ => rfl | _ + 11, _ => rfl), ?_⟩; show Je w base x w.heap.size (some ⟨q, 0, none⟩) n f s vk H vt ad cap l e' _ (d 6) true (d 10) V'; rw [h6, h10]; exact hA)
    | 8, _, ho =>
      cases ho
      refine stepG_of (fun g d hdep => ?_)
      exact step_nilCheck rfl trivial _ _ _ rfl rfl rfl
    | 9, _, ho =>
      cases ho
      refine stepG_of (fun g d hdep => ?_)
      exact step_fieldAddr rfl trivial _ _ _ _ rfl rfl (fun v hw => (field_nd v _).2.2.2.2.2.2.2)
    | 10, _, ho =>
      cases ho
      exact stepG_store rfl rfl rfl _ _ _ (fun _ => .pointer (some ⟨x, 10, none⟩)) (fun g => .slice g.2.1 (l.length + 1) g.2.2) rfl (fun g => by kernel_rfl) (fun g => by kernel_rfl) (fun g d V hJ hun hdep => by have h6 : d 6 = true := hdep 6 (by kernel_rfl); have h7 : d 7 = true := hdep 7 (by kernel_rfl); have hJ' := hJ; rw [h6, h7, hun] at hJ'; obtain ⟨V', hr, hA⟩ := hJ'.store hxb; refine ⟨V', hr, ?_⟩; show Je w base x w.heap.size (some ⟨q, 0, none⟩) n f s vk H vt ad cap l e' _ (d 6) (d 7) true V'; rw [h6, h7]; exact hA)
  intro g d W hall hW
  first | refine hK _ _ ?_ | refine (‹∀ (a : Act) (w : World), Code.wp Tryz.prog _ _ a w → _›) _ _ ?_ | skip
  simp only [finL, List.getD_cons_zero, List.getD_cons_succ, Nat.zero_add, Nat.reduceAdd, List.setIfInBounds_toArray, List.set_cons_zero, List.set_cons_succ]
  rw [hall 6 (by decide), hall 7 (by decide), hall 10 (by decide)] at hW
  go_end0
  refine ⟨rfl, g.2.1, g.2.2, ?_, hW.r1 rfl, hW.tn⟩
  have h1 := hW.obj
  rw [if_pos rfl] at h1
  exact h1
end Go.Proofs.YtklnfbanfgdgcaaGreatDoor
namespace Go.Proofs.YtklnfbanfgdgcaaGreatDoor
open Go.RowKit Go.Shelf Go.Lib
attribute [local go_sem] Oper.semAt_some

/-- While the round's tally is made. -/
structure Jg (w : World) (x : Nat) (vb : Option Addr) (n f s : Int) (vk : Option Addr) (H : Nat) (vt : Option Addr) (vp : Value) (ro : Int) (g : Nat × Option Addr × Nat) (d18 d24 : Bool) (V : World) : Prop where
  nb : Nb V x vb n f s vk H (if d24 = true then some ⟨g.1, 0, none⟩ else vt) vp
  ta : d18 = true → Ta V w.heap.size g.1 g.2.1 g.2.2 (nwT n f s ro H)
  tp : TpZ x w V
section
variable {w W V : World} {x : Nat} {vb : Option Addr} {n f s : Int} {vk : Option Addr} {H : Nat} {vt : Option Addr} {vp : Value} {ro : Int}
theorem Nb.put9 (h : Nb W x vb n f s vk H vt vp) (a : Option Addr) : (Instr.storeAt 110 (.pointer (some ⟨x, 9, none⟩)) (.pointer a)).run Tryz.prog W = .ok () (W.setCell ⟨x, 9, none⟩ (.pointer a)) ∧ Nb (W.setCell ⟨x, 9, none⟩ (.pointer a)) x vb n f s vk H a vp := by
  have c0 := h.c9
  have z0 := thaw_at h 9
  refine ⟨by go_simp, ?_⟩
  have := heap_setCell_same _ _ 9 _ _ (.pointer a) h
  exact this.trans rfl
theorem Ta.off {base q : Nat} {ad : Option Addr} {cap : Nat} {t : Tl} (h : Ta W base q ad cap t) (hn : Nb W x vb n f s vk H vt vp) (j : Nat) (u : Value) : Ta (W.setCell ⟨x, j, none⟩ u) base q ad cap t :=
  ⟨h.qb, (Below.heap_setCell _ _ _ _ (fun e => by have h1 := h.obj; rw [e, hn] at h1; simp only [Option.some.injEq, Obj.cells.injEq] at h1; exact absurd h1.2.1 (by decide))).trans h.obj, row_other h.row (row_type h.row hn (by decide)) _⟩
set_option maxHeartbeats 4000000 in
set_option maxRecDepth 100000 in
theorem begin_any (h : Nb w x vb n f s vk H vt vp) (hH : H < S128) (he : nwE n f s ro H = 0) :
    Calls Tryz.prog 29 #[.pointer (some ⟨x, 0, none⟩), .int .i64 ro] w fun r w' => r = .returned (.tuple #[]) ∧ ∃ q ad cap, Nb w' x vb n f s vk H (some ⟨q, 0, none⟩) vp ∧ Ta w' w.heap.size q ad cap (nwT n f s ro H) ∧ TpZ x w w' := by
  have hmx : Tryz.prog.follows .mixedOrders = true := by kernel_rfl
  have hnw := new_ok n f s ro H hH he
  go_enter Tryz.func29, Tryz.ntmps29
  refine wp_region_any hmx ?_
  refine wpAny_tabG (G := (Nat × Option Addr × Nat)) (fun g i__ => ([(.pointer (some ⟨x, 0, none⟩)), (.pointer (some ⟨x, 0, none⟩)), (.pointer (some ⟨x, 0, none⟩)), (.pointer (some ⟨x, 1, none⟩)), (.int .i64 n), (.pointer (some ⟨x, 0, none⟩)), (.pointer (some ⟨x, 0, none⟩)), (.pointer (some ⟨x, 2, none⟩)), (.int .i64 f), (.pointer (some ⟨x, 0, none⟩)), (.pointer (some ⟨x, 0, none⟩)), (.pointer (some ⟨x, 3, none⟩)), (.int .i64 s), (.int .i64 ro), (.pointer (some ⟨x, 0, none⟩)), (.pointer (some ⟨x, 0, none⟩)), (.pointer (some ⟨x, 5, none⟩)), (sv H), (.tuple #[.pointer (some ⟨g.1, 0, none⟩), .int .i64 0]), (.tuple #[.pointer (some ⟨g.1, 0, none⟩), .int .i64 0]), (.pointer (some ⟨g.1, 0, none⟩)), (.int .i64 0), (.pointer (some ⟨x, 0, none⟩)), (.pointer (some ⟨x, 9, none⟩)), undef] : List Value).getD i__ undef) (fun g d V => Jg w x vb n f s vk H vt vp ro g (d 18) (d 24) V) (by kernel_rfl) ((0, none, 0)) (show Jg w x vb n f s vk H vt vp ro (0, none, 0) false false _ from ⟨h.carry (Below.refl _ _).drew, fun e => (by cases e), TpZ.of _ (Below.refl _ _).drew⟩) ?step6 ?fin6
  case step6 =>
    intro i o ho
    have hi : i < 25 := getElem?_lt ho
    match i, hi, ho with
    | 0, _, ho =>
      cases ho
      refine stepG_of (fun g d hdep => ?_)
      exact step_move rfl trivial _ rfl (by kernel_rfl)
    | 1, _, ho =>
      cases ho
      refine stepG_of (fun g d hdep => ?_)
      exact step_move rfl trivial _ rfl (by kernel_rfl)
    | 2, _, ho =>
      cases ho
      refine stepG_of (fun g d hdep => ?_)
      exact step_nilCheck rfl trivial _ _ _ rfl rfl rfl
    | 3, _, ho =>
      cases ho
      refine stepG_of (fun g d hdep => ?_)
      exact step_fieldAddr rfl trivial _ _ _ _ rfl rfl (fun v hw => (field_nd v _).2.1)
    | 4, _, ho =>
      cases ho
      refine stepG_of (fun g d hdep => ?_)
      exact step_load rfl trivial _ _ _ rfl rfl (fun v hw => load_in hw.nb.c1)
    | 5, _, ho =>
      cases ho
      refine stepG_of (fun g d hdep => ?_)
      exact step_move rfl trivial _ rfl (by kernel_rfl)
    | 6, _, ho =>
      cases ho
      refine stepG_of (fun g d hdep => ?_)
      exact step_nilCheck rfl trivial _ _ _ rfl rfl rfl
    | 7, _, ho =>
      cases ho
      refine stepG_of (fun g d hdep => ?_)
      exact step_fieldAddr rfl trivial _ _ _ _ rfl rfl (fun v hw => (field_nd v _).2.2.1)
    | 8, _, ho =>
      cases ho
      refine stepG_of (fun g d hdep => ?_)
      exact step_load rfl trivial _ _ _ rfl rfl (fun v hw => load_in hw.nb.c2)
    | 9, _, ho =>
      cases ho
      refine stepG_of (fun g d hdep => ?_)
      exact step_move rfl trivial _ rfl (by kernel_rfl)
    | 10, _, ho =>
      cases ho
      refine stepG_of (fun g d hdep => ?_)
      exact step_nilCheck rfl trivial _ _ _ rfl rfl rfl
    | 11, _, ho =>
      cases ho
      refine stepG_of (fun g d hdep => ?_)
      exact step_fieldAddr rfl trivial _ _ _ _ rfl rfl (fun v hw => (field_nd v _).2.2.2.1)
    | 12, _, ho =>
      cases ho
      refine stepG_of (fun g d hdep => ?_)
      exact step_load rfl trivial _ _ _ rfl rfl (fun v hw => load_in hw.nb.c3)
    | 13, _, ho =>
      cases ho
      refine stepG_of (fun g d hdep => ?_)
      exact step_move rfl trivial _ rfl (by kernel_rfl)
    | 14, _, ho =>
      cases ho
      refine stepG_of (fun g d hdep => ?_)
      exact step_move rfl trivial _ rfl (by kernel_rfl)
    | 15, _, ho =>
      cases ho
      refine stepG_of (fun g d hdep => ?_)
      exact step_nilCheck rfl trivial _ _ _ rfl rfl rfl
    | 16, _, ho =>
      cases ho
      refine stepG_of (fun g d hdep => ?_)
      exact step_fieldAddr rfl trivial _ _ _ _ rfl rfl (fun v hw => (field_nd v _).2.2.2.2.2.1)
    | 17, _, ho =>
      cases ho
      refine stepG_of (fun g d hdep => ?_)
      exact step_load rfl trivial _ _ _ rfl rfl (fun v hw => load_hd hw.nb.c5)
    | 18, _, ho =>
      cases ho
      exact stepG_call rfl (fun _ => trivial) 119 _ _ (fun _ => [.int .i64 n, .int .i64 f, .int .i64 s, .int .i64 ro, sv H]) rfl (fun g => by kernel_rfl) (enters_of Tryz.func119 (by kernel_rfl) rfl) (fun g d V hJ hun hdep hcl => (hnw V).mono (by have h24 : d 24 = false := (by cases h : d 24 with | false => rfl | true => exact absurd (hcl 24 _ rfl h 18 (by kernel_rfl)) (by rw [hun]; simp)); have hJ' := hJ; rw [hun, h24] at hJ'; rintro e V' ⟨q, ad, cap, rfl, h1, h2⟩; refine ⟨(q, ad, cap), rfl, (fun j hj => match j, hj with | 18, hj => (by rw [hj] at hun; cases hun) | 19, hj => absurd ((hcl 19 _ rfl hj 18 (by kernel_rfl))) (by rw [hun]; simp) | 20, hj => absurd ((hcl 19 _ rfl (hcl 20 _ rfl hj 19 (by kernel_rfl)) 18 (by kernel_rfl))) (by rw [hun]; simp) | 21, hj => absurd ((hcl 19 _ rfl (hcl 21 _ rfl hj 19 (by kernel_rfl)) 18 (by kernel_rfl))) (by rw [hun]; simp) | 0, _ => rfl | 1, _ => rfl | 2, _ => rfl | 3, _ => rfl | 4, _ => rfl | 5, _ => rfl | 6, _ => rfl | 7, _ => rfl | 8, _ => rfl | 9, _ => rfl | 10, _ => rfl | 11, _ => rfl | 12, _ => rfl | 13, _ => rfl | 14, _ => rfl | 15, _ => rfl | 16, _ => rfl | 17, _ => rfl | 22, _ => rfl | 23, _ => rfl | 24, _ => rfl | _ + 25, _ => rfl), ?_⟩; show Jg w x vb n f s vk H vt vp ro _ true (d 24) V'; rw [h24]; exact ⟨hJ'.nb.carry h2, fun _ => ⟨Nat.le_trans hJ'.tp.size h1.qb, h1.obj, row_base h1.row hJ'.tp.size⟩, hJ'.tp.trans (TpZ.of _ h2)⟩))
    | 19, _, ho =>
      cases ho
      refine stepG_of (fun g d hdep => ?_)
      exact step_move rfl trivial _ rfl (by kernel_rfl)
    | 20, _, ho =>
      cases ho
      refine stepG_of (fun g d hdep => ?_)
      exact step_extract rfl trivial _ _ _ rfl rfl (fun v hw => rfl)
    | 21, _, ho =>
      cases ho
      refine stepG_of (fun g d hdep => ?_)
      exact step_extract rfl trivial _ _ _ rfl rfl (fun v hw => rfl)
    | 22, _, ho =>
      cases ho
      refine stepG_of (fun g d hdep => ?_)
      exact step_nilCheck rfl trivial _ _ _ rfl rfl rfl
    | 23, _, ho =>
      cases ho
      refine stepG_of (fun g d hdep => ?_)
      exact step_fieldAddr rfl trivial _ _ _ _ rfl rfl (fun v hw => (field_nd v _).2.2.2.2.2.2.1)
    | 24, _, ho =>
      cases ho
      exact stepG_store rfl rfl rfl _ _ _ (fun _ => .pointer (some ⟨x, 9, none⟩)) (fun g => .pointer (some ⟨g.1, 0, none⟩)) rfl (fun g => by kernel_rfl) (fun g => by kernel_rfl) (fun g d V hJ hun hdep => by have h18 : d 18 = true := hdep 18 (by kernel_rfl); have hJ' := hJ; rw [h18, hun] at hJ'; obtain ⟨h1, h2⟩ := hJ'.nb.put9 (some ⟨g.1, 0, none⟩); refine ⟨_, h1, ?_⟩; show Jg w x vb n f s vk H vt vp ro _ (d 18) true _; rw [h18]; exact ⟨h2, fun _ => (hJ'.ta rfl).off hJ'.nb 9 _, hJ'.tp.trans (TpZ.set _ _ _ _)⟩)
  intro g d W hall hW
  first | refine hK _ _ ?_ | refine (‹∀ (a : Act) (w : World), Code.wp Tryz.prog _ _ a w → _›) _ _ ?_ | skip
  simp only [finL, List.getD_cons_zero, List.getD_cons_succ, Nat.zero_add, Nat.reduceAdd, List.setIfInBounds_toArray, List.set_cons_zero, List.set_cons_succ]
  rw [hall 18 (by decide), hall 24 (by decide)] at hW
  go_end0
  exact ⟨rfl, g.1, g.2.1, g.2.2, hW.nb, hW.ta rfl, hW.tp⟩
theorem up_any (h : Nb w x vb n f s vk H vt vp) : Calls Tryz.prog 52 #[.pointer (some ⟨x, 0, none⟩)] w fun r w' => r = .returned (.bool (decide (vb ≠ none))) ∧ w' = w := by
  have c0 := h.c0
  go_enter Tryz.func52, Tryz.ntmps52
  go_wp2
  go_ret
  refine ⟨?_, rfl⟩
  cases vb <;> rfl
end
end Go.Proofs.YtklnfbanfgdgcaaGreatDoor
namespace Go.Proofs.YtklnfbanfgdgcaaGreatDoor
open Go.RowKit Go.Shelf Go.Lib
attribute [local go_sem] Oper.semAt_some

section
variable {w W V : World} {x : Nat} {vb : Option Addr} {n f s : Int} {vk : Option Addr} {H : Nat} {vt : Option Addr} {vp : Value}
theorem TpZ.young {B : Nat} (hb : Below w.heap.size w W) (h : TpZ B W V) (hB : w.heap.size ≤ B) : Below w.heap.size w V := hb.trans ⟨h.os, h.tape, h.output, h.size, fun k hk => h.block k (Nat.lt_of_lt_of_le hk hb.size) (by omega)⟩
end
end Go.Proofs.YtklnfbanfgdgcaaGreatDoor
