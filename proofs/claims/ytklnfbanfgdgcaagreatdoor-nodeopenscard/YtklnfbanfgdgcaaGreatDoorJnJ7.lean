/- tally's Heards and count; slices.Clone of sets: what they answer. -/
import Derived.Test.YtklnfbanfgdgcaaGreatDoorJnJ6
import Derived.Laws.AppendOwnNone
import Derived.Test.YtklnfbanfgdgcaaGreatDoorJnJ1
import Derived.Test.YtklnfbanfgdgcaaGreatDoorJnJ3
import Derived.Shelf.RegionOpen
import Derived.WalkKit
import Derived.WalkSpells
import Derived.OwnWalkIn
import Derived.TacticsInMore
import Derived.LoopNIn
import Derived.LoopIn
import Derived.Lib.OthersKept
import Derived.Deep.Light
import Derived.Laws.IdiomStrings
set_option maxHeartbeats 40000000
set_option maxRecDepth 100000
set_option linter.unusedVariables false
namespace Go.Proofs.YtklnfbanfgdgcaaGreatDoor
open Go.RowKit Go.Shelf

theorem infoZ : (Tryz.prog.info? 51).map (fun i => (i.zero, i.size, i.bytes)) = some (some (.agg #[.int .u32 0, .int .u32 0, .int .u32 0, .int .u32 0]), 4, 16) := by kernel_rfl
section
variable {w W V : World} {base q : Nat} {ad : Option Addr} {cap : Nat} {t : Tl}
/-- While a reply is taken in, behind the others. -/
structure Jc (w0 : World) (base q hb : Nat) (ad : Option Addr) (cap : Nat) (t : Tl) (N : Nat) (g : Nat × Option Addr × Nat) (d6 d7 d10 : Bool) (V : World) : Prop where
  obj : V.heap[q]? = some (.cells (taC t (if d10 = true then .slice g.2.1 (t.hs.length + 1) g.2.2 else .slice ad t.hs.length cap)) 261 (0, 0))
  bx : Holds4 V hb (wd N)
  r0 : d7 = false → V.ownsRow base 51 4 (.slice ad t.hs.length cap) t.hs.length (fs t.hs)
  r1 : d7 = true → V.ownsRow base 51 4 (.slice g.2.1 (t.hs.length + 1) g.2.2) (t.hs.length + 1) (fs (t.hs ++ [N]))
  bl : d6 = true → d7 = false → Holds4 V g.1 (wd N) ∧ ob ad ≠ some g.1
  tn : Tn q (ob ad) (if d7 = true then ob g.2.1 else ob ad) w0 V
theorem bs1S (W : World) (N : Nat) : (Instr.buildSlice 53 1 #[(0, sv N)]).run Tryz.prog W = .ok (.slice (some ⟨W.heap.size, 0, none⟩) 1 1) (W.alloc (.cells (cells4 (wd N)) 51)) := by
  unfold sv cells4
  go_simp
theorem load_tl {W : World} {q : Nat} {ad : Option Addr} {n cap : Nat} {C : Array Value} {ty : TypeId} (h : W.heap[q]? = some (.cells C ty (0, 0))) (hc : C[7]? = some (.slice ad n cap)) : (Instr.loadAt 53 (.pointer (some ⟨q, 7, none⟩))).run Tryz.prog W = .ok (.slice ad n cap) W := by
  have c0 : W.cell? ⟨q, 7, none⟩ = some (.slice ad n cap) := (cell_at h 7).trans hc
  go_simp
theorem store_tl {W : World} {q : Nat} {ad : Option Addr} {n cap : Nat} {S : Value} (h : W.heap[q]? = some (.cells (taC t S) 261 (0, 0))) : (Instr.storeAt 53 (.pointer (some ⟨q, 7, none⟩)) (.slice ad n cap)).run Tryz.prog W = .ok () (W.setCell ⟨q, 7, none⟩ (.slice ad n cap)) ∧ (W.setCell ⟨q, 7, none⟩ (.slice ad n cap)).heap[q]? = some (.cells (taC t (.slice ad n cap)) 261 (0, 0)) := by
  have c0 : W.cell? ⟨q, 7, none⟩ = some S := (cell_at h 7).trans rfl
  have z0 := thaw_at h 7
  refine ⟨by go_simp, ?_⟩
  have := heap_setCell_same _ _ 7 _ _ (.slice ad n cap) h
  exact this.trans rfl
theorem Tn.set {p : Nat} {g g' : Option Nat} {W V : World} (h : Tn p g g' W V) (j : Nat) (u : Value) : Tn p g g' W (V.setCell ⟨p, j, none⟩ u) :=
  ⟨h.os, h.tape, h.output, by simpa using h.size, fun k hk h1 h2 => (Below.heap_setCell _ _ _ _ h1).trans (h.block k hk h1 h2), h.own⟩
theorem Tn.alloc {p : Nat} {g g' : Option Nat} {W V : World} (h : Tn p g g' W V) (o : Obj) : Tn p g g' W (V.alloc o) := h.trans (Tn.of p g' (al1' _ _))
def setR (W : World) (q M : Nat) : World := (((W.setCell ⟨q, 3, none⟩ (.int .u32 (wd M 0 : Nat))).setCell ⟨q, 4, none⟩ (.int .u32 (wd M 1 : Nat))).setCell ⟨q, 5, none⟩ (.int .u32 (wd M 2 : Nat))).setCell ⟨q, 6, none⟩ (.int .u32 (wd M 3 : Nat))
/-- The repliers are put. -/
theorem Ta.putR (h : Ta W base q ad cap t) (M : Nat) : Ta (setR W q M) base q ad cap { t with reps := M } ∧ Tn q (ob ad) (ob ad) W (setR W q M) := by
  have h0 := heap_setCell_same _ _ 3 _ _ (.int .u32 (wd M 0 : Nat)) h.obj
  have h1 := heap_setCell_same _ _ 4 _ _ (.int .u32 (wd M 1 : Nat)) h0
  have h2 := heap_setCell_same _ _ 5 _ _ (.int .u32 (wd M 2 : Nat)) h1
  have h3 := heap_setCell_same _ _ 6 _ _ (.int .u32 (wd M 3 : Nat)) h2
  have hne : (Value.slice ad t.hs.length cap).ownBlock ≠ some q := by rw [ob_eq]; exact h.ne
  refine ⟨⟨h.qb, h3, row_other (row_other (row_other (row_other h.row hne _) hne _) hne _) hne _⟩, ?_⟩
  exact ((((Tn.of q (ob ad) (Below.refl _ W)).set 3 _).set 4 _).set 5 _).set 6 _
theorem Jc.start {hb N : Nat} (h : Ta W base q ad cap t) (hx : Holds4 W hb (wd N)) (ht : Tn q (ob ad) (ob ad) w W) : Jc w base q hb ad cap t N (0, none, 0) false false false W.drew :=
  ⟨h.obj, hx, fun _ => row_below h.row (Below.refl _ _).drew, fun e => (by cases e), fun e => (by cases e), ht.trans (Tn.of q _ (Below.refl _ _).drew)⟩
theorem Jc.build {hb N : Nat} {g : Nat × Option Addr × Nat} (h : Jc w base q hb ad cap t N g false false false V) : Jc w base q hb ad cap t N (V.heap.size, g.2) true false false (V.alloc (.cells (cells4 (wd N)) 51)) := by
  have ha := al1' V (.cells (cells4 (wd N)) 51)
  refine ⟨old_at h.obj, old_at h.bx, fun _ => row_below (h.r0 rfl) ha, fun e => by (cases e), fun _ _ => ⟨new_at rfl, fun e => ?_⟩, h.tn.alloc _⟩
  have := (row_lt2 (h.r0 rfl) V.heap.size (by rw [ob_eq]; exact e)).2
  omega
theorem Jc.app {hb N : Nat} {g : Nat × Option Addr × Nat} (h : Jc w base q hb ad cap t N g true false false V) (hb0 : base ≤ V.heap.size) (hl : t.hs.length ≤ 1000) (hhb : ob ad ≠ some hb) (ty : TypeId) : ∃ a c V', (Builtin.append_ #[53, 53] ty #[.slice ad t.hs.length cap, .slice (some ⟨g.1, 0, none⟩) 1 1]).run Tryz.prog V = .ok (.slice a (t.hs.length + 1) c) V' ∧ Jc w base q hb ad cap t N (g.1, a, c) true true false V' := by
  obtain ⟨ic, hic, hz0, hz1, hz2⟩ := info_parts infoZ
  obtain ⟨hg, hne⟩ := h.bl rfl rfl
  obtain ⟨v', V', hr, ho, hgr, hn, hown⟩ := run_append_own_at (P := Tryz.prog) V base 53 ty 51 ic _ 4 16 Tryz.underlying53 hic hz0 hz1 hz2 rfl (by decide) _ t.hs.length (fs t.hs) (h.r0 rfl) ⟨g.1, 0, none⟩ 1 1 (fs [N]) rfl (fun j u hj => by
    rw [add_pl, Nat.zero_add, cell_at hg]
    have e : (fs [N]) = (cells4 (wd N)).toList := rfl
    rw [e] at hj
    simpa using hj) (fs_one _) (by unfold maxLen; omega) (by omega) hb0
  rw [← fs_append] at ho
  rcases own_form ho with ⟨_, e2⟩ | ⟨g2, c, e1, _⟩
  · omega
  · subst e1
    rw [ob_eq] at hgr
    refine ⟨_, c, V', hr, (hgr.block q (lt_at h.obj) (fun e => ?_)).trans h.obj, (hgr.block hb h.bx.lt (fun e => hhb e.symm)).trans h.bx, fun e => (by cases e), fun _ => ho, fun _ e => (by cases e), ?_⟩
    · exact row_type (h.r0 rfl) h.obj (by decide) (by rw [ob_eq]; exact e.symm)
    · refine h.tn.trans ⟨hgr.os, hgr.tape, hgr.output, hgr.size, fun k hk _ h2 => hgr.block k hk h2, ?_⟩
      rcases hown with k | k
      · exact .inl ((ob_eq _ _ _).symm.trans (k.trans (ob_eq _ _ _)))
      · exact .inr fun b e => by
          have : some b = some V.heap.size := e.symm.trans ((ob_eq _ _ _).symm.trans k)
          cases this
          exact Nat.le_refl _
theorem Jc.store {hb N : Nat} {g : Nat × Option Addr × Nat} {d10 : Bool} (h : Jc w base q hb ad cap t N g true true d10 V) (hqb : hb ≠ q) : ∃ V', (Instr.storeAt 53 (.pointer (some ⟨q, 7, none⟩)) (.slice g.2.1 (t.hs.length + 1) g.2.2)).run Tryz.prog V = .ok () V' ∧ Jc w base q hb ad cap t N g true true true V' := by
  obtain ⟨h1, h2⟩ := store_tl (ad := g.2.1) (n := t.hs.length + 1) (cap := g.2.2) h.obj
  refine ⟨_, h1, h2, (Below.heap_setCell _ _ _ _ hqb).trans h.bx, fun e => (by cases e), fun _ => row_other (h.r1 rfl) (row_type (h.r1 rfl) h.obj (by decide)) _, fun _ e => (by cases e), h.tn.set 7 _⟩
set_option maxHeartbeats 4000000 in
set_option maxRecDepth 100000 in
theorem tcount_any (h : Ta W base q ad cap t) (hb0 : base ≤ W.heap.size) (hl : t.hs.length ≤ 1000) (id : Int) (N : Nat) : Calls Tryz.prog 185 #[.pointer (some ⟨q, 0, none⟩), .int .i64 id, sv N] W fun e w' => e = .returned (.tuple #[]) ∧ ∃ ad' cap', Ta w' base q ad' cap' (cntT t id N) ∧ Tn q (ob ad) (ob ad') W w' := by
  have hmx : Tryz.prog.follows .mixedOrders = true := by kernel_rfl
  obtain ⟨w1, hw1⟩ : ∃ w1, W.alloc (.cells #[.int .u32 (wd N 0 : Nat), .int .u32 (wd N 1 : Nat), .int .u32 (wd N 2 : Nat), .int .u32 (wd N 3 : Nat)] 51) = w1 := ⟨_, rfl⟩
  have hb1 : Below W.heap.size W w1 := by rw [← hw1]; exact al1' _ _
  have g1 : Holds4 w1 W.heap.size (wd N) := by rw [← hw1]; exact new_at rfl
  have hT1 := h.carry hb1
  have hwi := twith_any hT1 id
  generalize hM : wthN t.reps id = M at *
  simp only [sv] at hwi ⊢
  go_enter Tryz.func185, Tryz.ntmps185
  go_wp2_with (go_at_call 232; (with_reducible refine hwi.mono ?_); rintro e u ⟨rfl, hb⟩; have hT2 := hT1.carry hb; obtain ⟨_, _, _, c3, c4, c5, c6, _⟩ := hT2.cells; have z3 := thaw_at hT2.obj 3; have z4 := thaw_at hT2.obj 4; have z5 := thaw_at hT2.obj 5; have z6 := thaw_at hT2.obj 6)
  obtain ⟨hT3, hn3⟩ := hT2.putR M
  have hlt := h.lt
  have g3 : Holds4 (setR u q M) W.heap.size (wd N) := (hn3.block _ (g1.carry hb).lt (by omega) (fun e => by have := (row_lt2 h.row W.heap.size (by rw [ob_eq]; exact e.symm)).2; omega)).trans (g1.carry hb)
  have hn : Tn q (ob ad) (ob ad) W (setR u q M) := (Tn.of q _ (bel2 hb1 hb)).trans hn3
  have hhb : ob ad ≠ some W.heap.size := fun e => by have := (row_lt2 h.row W.heap.size (by rw [ob_eq]; exact e)).2; omega
  have hqb : W.heap.size ≠ q := by omega
  have hst := Jc.start hT3 g3 hn
  have eW : (((u.setCell ⟨q, 3, none⟩ (.int .u32 (wd M 0 : Nat))).setCell ⟨q, 4, none⟩ (.int .u32 (wd M 1 : Nat))).setCell ⟨q, 5, none⟩ (.int .u32 (wd M 2 : Nat))).setCell ⟨q, 6, none⟩ (.int .u32 (wd M 3 : Nat)) = setR u q M := rfl
  rw [eW]
  obtain ⟨t', ht'⟩ : ∃ t' : Tl, { t with reps := M } = t' := ⟨_, rfl⟩
  have hl' : t'.hs = t.hs := by rw [← ht']
  have hlen : t'.hs.length = t.hs.length := by rw [hl']
  rw [ht'] at hst
  have hl2 : t'.hs.length ≤ 1000 := by omega
  generalize setR u q M = w3 at *
  rename_i hK
  refine wp_region_any hmx ?_
  refine wpAny_tabG (G := (Nat × Option Addr × Nat)) (fun g i__ => ([(.pointer (some ⟨q, 0, none⟩)), (.pointer (some ⟨q, 0, none⟩)), (.pointer (some ⟨q, 0, none⟩)), (.pointer (some ⟨q, 7, none⟩)), (.slice ad t'.hs.length cap), (sv N), (.slice (some ⟨g.1, 0, none⟩) 1 1), (.slice g.2.1 (t'.hs.length + 1) g.2.2), (.pointer (some ⟨q, 0, none⟩)), (.pointer (some ⟨q, 7, none⟩)), undef] : List Value).getD i__ undef) (fun g d V => Jc W base q W.heap.size ad cap t' N g (d 6) (d 7) (d 10) V) (by kernel_rfl) ((0, none, 0)) hst ?step1 ?fin1
  case step1 =>
    intro i o ho
    have hi : i < 11 := getElem?_lt ho
    match i, hi, ho with
    | 0, _, ho =>
      cases ho
      refine stepG_of (fun g d hdep => ?_)
      exact step_move rfl trivial _ rfl (by kernel_rfl)
    | 1, _, ho =>
      cases ho
      refine stepG_of (fun g d hdep => ?_)
      exact step_move rfl trivial _ rfl (by kernel_rfl)
    | 2, _, ho =>
      cases ho
      refine stepG_of (fun g d hdep => ?_)
      exact step_nilCheck rfl trivial _ _ _ rfl rfl rfl
    | 3, _, ho =>
      cases ho
      refine stepG_of (fun g d hdep => ?_)
      exact step_fieldAddr rfl trivial _ _ _ _ rfl rfl (fun v hw => field_t4 v _)
    | 4, _, ho =>
      cases ho
      exact stepG_ofC (fun g d hun hdep hcl => step_load rfl trivial _ _ _ rfl rfl (fun v hw => load_tl (by have h10 : d 10 = false := (by cases h : d 10 with | false => rfl | true => exact absurd (hcl 10 _ rfl h 4 (by kernel_rfl)) (by rw [hun]; simp)); have := hw.obj; rw [h10] at this; exact this) rfl))
    | 5, _, ho =>
      cases ho
      refine stepG_of (fun g d hdep => ?_)
      exact step_load rfl trivial _ _ _ rfl rfl (fun v hw => whole4 v _ N hw.bx)
    | 6, _, ho =>
      cases ho
      exact stepG_buildG rfl rfl _ _ (fun g => sv N) rfl (fun g => by kernel_rfl) (fun g d V hJ hun hdep hcl => by have h7 : d 7 = false := (by cases h : d 7 with | false => rfl | true => exact absurd (hcl 7 _ rfl h 6 (by kernel_rfl)) (by rw [hun]; simp)); have h10 : d 10 = false := (by cases h : d 10 with | false => rfl | true => exact absurd (hcl 10 _ rfl h 6 (by kernel_rfl)) (by rw [hun]; simp)); have hJ' := hJ; rw [hun, h7, h10] at hJ'; refine ⟨(V.heap.size, g.2), _, bs1S V N, (fun j hj => match j, hj with | 6, hj => (by rw [hj] at hun; cases hun)  | 0, _ => rfl | 1, _ => rfl | 2, _ => rfl | 3, _ => rfl | 4, _ => rfl | 5, _ => rfl | 7, _ => rfl | 8, _ => rfl | 9, _ => rfl | 10, _ => rfl | _ + 11, _ => rfl), ?_⟩; show Jc W base q W.heap.size ad cap t' N _ true (d 7) (d 10) _; rw [h7, h10]; exact hJ'.build)
    | 7, _, ho =>
      cases ho
      exact stepG_append rfl rfl _ _ _ (fun _ => .slice ad t'.hs.length cap) (fun g => .slice (some ⟨g.1, 0, none⟩) 1 1) rfl (fun g => by kernel_rfl) (fun g => by kernel_rfl) (fun g d V hJ hun hdep hcl => by have h6 : d 6 = true := hdep 6 (by kernel_rfl); have h10 : d 10 = false := (by cases h : d 10 with | false => rfl | true => exact absurd (hcl 10 _ rfl h 7 (by kernel_rfl)) (by rw [hun]; simp)); have hJ' := hJ; rw [h6, hun, h10] at hJ'; obtain ⟨a, c, V', hr, hA⟩ := hJ'.app (Nat.le_trans hb0 hJ'.tn.size) hl2 hhb 53; refine ⟨(g.1, a, c), V', hr, (fun j hj => match j, hj with | 7, hj => (by rw [hj] at hun; cases hun)  | 0, _ => rfl | 1, _ => rfl | 2, _ => rfl | 3, _ => rfl | 4, _ => rfl | 5, _ => rfl | 6, _ => rfl | 8, _ => rfl | 9, _ => rfl | 10, _ => rfl | _ + 11, _ => rfl), ?_⟩; show Jc W base q W.heap.size ad cap t' N _ (d 6) true (d 10) V'; rw [h6, h10]; exact hA)
    | 8, _, ho =>
      cases ho
      refine stepG_of (fun g d hdep => ?_)
      exact step_nilCheck rfl trivial _ _ _ rfl rfl rfl
    | 9, _, ho =>
      cases ho
      refine stepG_of (fun g d hdep => ?_)
      exact step_fieldAddr rfl trivial _ _ _ _ rfl rfl (fun v hw => field_t4 v _)
    | 10, _, ho =>
      cases ho
      refine stepG_of (fun g d hdep => ?_)
      exact step_store rfl trivial rfl _ _ _ _ _ rfl rfl rfl (fun V hw => by have h6 : d 6 = true := hdep 6 (by kernel_rfl); have h7 : d 7 = true := hdep 7 (by kernel_rfl); have hw' := hw; rw [h6, h7] at hw'; obtain ⟨V', hr, hA⟩ := hw'.store hqb; refine ⟨V', hr, ?_⟩; show Jc W base q W.heap.size ad cap t' N _ (d 6) (d 7) true V'; rw [h6, h7]; exact hA)
  intro g d W hall hW
  first | refine hK _ _ ?_ | refine (‹∀ (a : Act) (w : World), Code.wp Tryz.prog _ _ a w → _›) _ _ ?_ | skip
  simp only [finL, List.getD_cons_zero, List.getD_cons_succ, Nat.zero_add, Nat.reduceAdd, List.setIfInBounds_toArray, List.set_cons_zero, List.set_cons_succ]
  rw [hall 6 (by decide), hall 7 (by decide), hall 10 (by decide)] at hW
  go_end0
  refine ⟨rfl, g.2.1, g.2.2, ⟨h.qb, ?_, ?_⟩, hW.tn⟩
  · have h1 := hW.obj
    rw [if_pos rfl, ← ht'] at h1
    refine h1.trans ?_
    simp [cntT, taC, hM]
  · have h1 := hW.r1 rfl
    rw [hl'] at h1
    simpa [cntT] using h1
end

section
variable {W : World} {base q : Nat} {ad : Option Addr} {cap : Nat} {t : Tl}
end

theorem i64_id (x : Int) (h1 : -9223372036854775808 ≤ x) (h2 : x ≤ 9223372036854775807) : IntKind.i64.wrap x = x := by
  rw [IntKind.wrap_i64]
  omega
/-- The error that New tells. -/
def nwE (n f self ro : Int) (N : Nat) : Int := if n < 1 ∨ 100 < n ∨ f < 0 ∨ n ≤ f then 1 else if isN self n = false then 30 else if ro < 1 ∨ 1099511627775 < ro then 73 else if wthB N n = false then 74 else 0
def tl0 (n f ro : Int) : Tl := ⟨n, n - f, ro, 0, []⟩
def nwT (n f self ro : Int) (N : Nat) : Tl := cntT (tl0 n f ro) self N
theorem new_tl0 (u : World) (n f ro : Int) : (u.alloc (.cells #[.int .i64 n, .int .i64 (n - f), .int .i64 ro, .int .u32 0, .int .u32 0, .int .u32 0, .int .u32 0, .slice none 0 0] 261)).heap[u.heap.size]? = some (.cells (taC (tl0 n f ro) (.slice none (tl0 n f ro).hs.length 0)) 261 (0, 0)) := by
  rw [show taC (tl0 n f ro) (.slice none (tl0 n f ro).hs.length 0) = #[.int .i64 n, .int .i64 (n - f), .int .i64 ro, .int .u32 0, .int .u32 0, .int .u32 0, .int .u32 0, .slice none 0 0] by simp [taC, tl0, wd]]
  exact new_at rfl
theorem nw_ok {n f self ro : Int} {N : Nat} (h : nwE n f self ro N = 0) : 1 ≤ n ∧ n ≤ 100 ∧ 0 ≤ f ∧ f < n ∧ isN self n = true ∧ 1 ≤ ro ∧ ro ≤ 1099511627775 ∧ wthB N n = true := by
  unfold nwE at h
  repeat' split at h
  all_goals first | omega | skip
  rename_i h1 h2 h3 h4
  refine ⟨by omega, by omega, by omega, by omega, by simpa using h2, by omega, by omega, by simpa using h4⟩
set_option maxHeartbeats 4000000 in
set_option maxRecDepth 100000 in
theorem new_no (n f self ro : Int) (N : Nat) (hN : N < S128) (he : nwE n f self ro N ≠ 0) (W : World) : Calls Tryz.prog 119 #[.int .i64 n, .int .i64 f, .int .i64 self, .int .i64 ro, sv N] W fun e w' => e = .returned (.tuple #[.pointer none, .int .i64 (nwE n f self ro N)]) ∧ Below W.heap.size W w' := by
  obtain ⟨w1, hw1⟩ : ∃ w1, W.alloc (.cells #[.int .u32 (wd N 0 : Nat), .int .u32 (wd N 1 : Nat), .int .u32 (wd N 2 : Nat), .int .u32 (wd N 3 : Nat)] 51) = w1 := ⟨_, rfl⟩
  have hb1 : Below W.heap.size W w1 := by rw [← hw1]; exact al1' _ _
  have g1 : Holds4 w1 W.heap.size (wd N) := by rw [← hw1]; exact new_at rfl
  obtain ⟨y0, y1, y2, y3, _⟩ := g1.facts
  clear g1
  have hwi := within_any N hN n w1
  have his := isNode_any self n w1
  by_cases c1 : n < 1
  · rw [show nwE n f self ro N = 1 by unfold nwE; rw [if_pos (by omega)]]
    simp only [sv]
    go_enter Tryz.func119, Tryz.ntmps119
    go_wp2
    go_ret2
    exact ⟨rfl, hb1⟩
  by_cases c2 : 100 < n
  · rw [show nwE n f self ro N = 1 by unfold nwE; rw [if_pos (by omega)]]
    simp only [sv]
    go_enter Tryz.func119, Tryz.ntmps119
    go_wp2
    go_ret2
    exact ⟨rfl, hb1⟩
  by_cases c3 : f < 0
  · rw [show nwE n f self ro N = 1 by unfold nwE; rw [if_pos (by omega)]]
    simp only [sv]
    go_enter Tryz.func119, Tryz.ntmps119
    go_wp2
    go_ret2
    exact ⟨rfl, hb1⟩
  by_cases c4 : n ≤ f
  · rw [show nwE n f self ro N = 1 by unfold nwE; rw [if_pos (by omega)]]
    simp only [sv]
    go_enter Tryz.func119, Tryz.ntmps119
    go_wp2
    go_ret2
    exact ⟨rfl, hb1⟩
  have hE1 : nwE n f self ro N = if isN self n = false then 30 else if ro < 1 ∨ 1099511627775 < ro then 73 else if wthB N n = false then 74 else 0 := by unfold nwE; rw [if_neg (by omega)]
  rw [hE1] at he ⊢
  clear hE1
  cases hs : isN self n with
  | false =>
    rw [hs] at his
    simp only [if_true, sv]
    go_enter Tryz.func119, Tryz.ntmps119
    go_wp2_with (go_at_call 183; (with_reducible refine his.mono ?_); rintro e u ⟨rfl, hu⟩; obtain rfl := hu.symm)
    go_ret2
    exact ⟨rfl, hb1⟩
  | true =>
    rw [hs] at his he
    by_cases c5 : ro < 1
    · rw [if_neg (by simp), if_pos (by omega)]
      simp only [sv]
      go_enter Tryz.func119, Tryz.ntmps119
      go_wp2_with (go_at_call 183; (with_reducible refine his.mono ?_); rintro e u ⟨rfl, hu⟩; obtain rfl := hu.symm)
      go_ret2
      exact ⟨rfl, hb1⟩
    by_cases c6 : 1099511627775 < ro
    · rw [if_neg (by simp), if_pos (by omega)]
      simp only [sv]
      go_enter Tryz.func119, Tryz.ntmps119
      go_wp2_with (go_at_call 183; (with_reducible refine his.mono ?_); rintro e u ⟨rfl, hu⟩; obtain rfl := hu.symm)
      go_ret2
      exact ⟨rfl, hb1⟩
    rw [if_neg (by simp), if_neg (by omega)] at he ⊢
    cases hb : wthB N n with
    | true => simp [hb] at he
    | false =>
      rw [hb] at hwi
      rw [if_pos rfl]
      simp only [sv] at hwi ⊢
      go_enter Tryz.func119, Tryz.ntmps119
      go_wp2_with (first | (go_at_call 183; (with_reducible refine his.mono ?_); rintro e u ⟨rfl, hu⟩; obtain rfl := hu.symm) | (go_at_call 184; (with_reducible refine hwi.mono ?_); rintro e u ⟨rfl, hu⟩))
      go_ret2
      exact ⟨rfl, bel2 hb1 hu⟩
set_option maxHeartbeats 4000000 in
set_option maxRecDepth 100000 in
theorem new_ok (n f self ro : Int) (N : Nat) (hN : N < S128) (he : nwE n f self ro N = 0) (W : World) : Calls Tryz.prog 119 #[.int .i64 n, .int .i64 f, .int .i64 self, .int .i64 ro, sv N] W fun e w' => ∃ q ad cap, e = .returned (.tuple #[.pointer (some ⟨q, 0, none⟩), .int .i64 0]) ∧ Ta w' W.heap.size q ad cap (nwT n f self ro N) ∧ Below W.heap.size W w' := by
  obtain ⟨h1, h2, h3, h4, h5, h6, h7, h8⟩ := nw_ok he
  obtain ⟨w1, hw1⟩ : ∃ w1, W.alloc (.cells #[.int .u32 (wd N 0 : Nat), .int .u32 (wd N 1 : Nat), .int .u32 (wd N 2 : Nat), .int .u32 (wd N 3 : Nat)] 51) = w1 := ⟨_, rfl⟩
  have hb1 : Below W.heap.size W w1 := by rw [← hw1]; exact al1' _ _
  have g1 : Holds4 w1 W.heap.size (wd N) := by rw [← hw1]; exact new_at rfl
  obtain ⟨y0, y1, y2, y3, _⟩ := g1.facts
  have G1 : Hid (Holds4 w1 W.heap.size (wd N)) := g1
  clear g1
  have hwi := within_any N hN n w1
  have his := isNode_any self n w1
  rw [h8] at hwi
  rw [h5] at his
  clear h8 h5 he
  have c1 : ¬ n < 1 := by omega
  have c2 : ¬ 100 < n := by omega
  have c3 : ¬ f < 0 := by omega
  have c4 : ¬ n ≤ f := by omega
  have c5 : ¬ ro < 1 := by omega
  have c6 : ¬ 1099511627775 < ro := by omega
  have hid := i64_id (n - f) (by omega) (by omega)
  simp only [sv] at hwi ⊢
  go_enter Tryz.func119, Tryz.ntmps119
  go_wp2_with (first
    | (go_at_call 183; (with_reducible refine his.mono ?_); rintro e u ⟨rfl, hu⟩; obtain rfl := hu.symm)
    | (go_at_call 184; (with_reducible refine hwi.mono ?_); rintro e u ⟨rfl, hu⟩; obtain ⟨u2, hu2⟩ : ∃ u2, u.alloc (.cells #[.int .i64 n, .int .i64 (n - f), .int .i64 ro, .int .u32 0, .int .u32 0, .int .u32 0, .int .u32 0, .slice none 0 0] 261) = u2 := ⟨_, rfl⟩; have hb2 : Hid (Below W.heap.size W u2) := (by rw [← hu2]; exact bel2 (bel2 hb1 hu) (al1' _ _)); have hT : Hid (Ta u2 W.heap.size u.heap.size none 0 (tl0 n f ro)) := (by rw [← hu2]; exact ⟨(bel2 hb1 hu).size, new_tl0 u n f ro, World.ownsRow_nil _ _ _ _⟩); have G2 : Hid (Holds4 u2 W.heap.size (wd N)) := (by rw [← hu2]; exact old_at (G1.out.carry hu)); obtain ⟨x0, x1, x2, x3, _⟩ := G2.out.facts; have hco := tcount_any hT.out hb2.out.size (by simp [tl0]) self N; simp only [sv] at hco)
    | (go_at_call 185; (with_reducible refine hco.mono ?_); rintro e u3 ⟨rfl, ad', cap', hT2, hn2⟩))
  go_ret2
  exact ⟨u.heap.size, ad', cap', rfl, hT2, hb2.out.trans (hT.out.below hn2)⟩

/-- The fuse as it is told. -/
def left (d : Dst) : Int := if d.fused then d.fuse else -1
theorem zerD : ∀ w : World, (zeroValue 103).run Tryz.prog w = .ok (.agg (dkC d0).toArray) w := (zero_of_info (n := 260) (by kernel_rfl)).1
theorem boxD (C : Array Value) (w : World) : (Instr.box 103 (.agg C)).run Tryz.prog w = .ok (.pointer (some ⟨w.heap.size, 0, none⟩)) (w.alloc (.cells C 103)) := by kernel_rfl
theorem i64_idZ (x : Int) (h1 : -9223372036854775808 ≤ x) (h2 : x ≤ 9223372036854775807) : IntKind.i64.wrap x = x := by
  rw [IntKind.wrap_i64]
  omega
set_option maxHeartbeats 1000000 in
set_option maxRecDepth 100000 in
theorem dnew_any (w : World) : Calls Tryz.prog 17 #[] w fun e w' => e = .returned (.pointer (some ⟨w.heap.size, 0, none⟩)) ∧ Dk w' w.heap.size d0 ∧ w.heap.size < w'.heap.size ∧ Below w.heap.size w w' := by
  have h1 := zerD
  have h2 := boxD
  obtain ⟨C, hC⟩ : ∃ C, (dkC d0).toArray = C := ⟨_, rfl⟩
  rw [hC] at h1
  go_enter Tryz.func17, Tryz.ntmps17
  go_wp2
  go_ret
  refine ⟨rfl, ?_, by simp, al1'Z _ _⟩
  rw [← hC]
  exact ⟨new_at rfl, by simp [d0], byt_zero 256⟩
section
variable {W : World} {p : Nat} {d : Dst}
set_option maxHeartbeats 1000000 in
theorem on_any (h : Dk W p d) : Calls Tryz.prog 15 #[.pointer (some ⟨p, 0, none⟩)] W fun e w' => e = .returned (.bool (!d.off)) ∧ w' = W := by
  have c := h.c0
  go_enter Tryz.func15, Tryz.ntmps15
  go_wp2
  go_ret
  exact ⟨rfl, rfl⟩
set_option maxHeartbeats 1000000 in
theorem left_any (h : Dk W p d) : Calls Tryz.prog 300 #[.pointer (some ⟨p, 0, none⟩)] W fun e w' => e = .returned (.int .i64 (left d)) ∧ w' = W := by
  have c := h.c1
  have c2 := h.c2
  obtain ⟨l, of, fd, fu, wr⟩ := d
  cases fd
  all_goals
    go_enter Tryz.func300, Tryz.ntmps300
    go_wp2
    go_ret
    exact ⟨rfl, rfl⟩
set_option maxHeartbeats 1000000 in
theorem cut_any (h : Dk W p d) : Calls Tryz.prog 44 #[.pointer (some ⟨p, 0, none⟩)] W fun e w' => e = .returned (.tuple #[]) ∧ Dk w' p { d with off := true } ∧ TpZ p W w' := by
  have c := h.c0
  have z := h.thaw 256
  go_enter Tryz.func44, Tryz.ntmps44
  go_wp2
  go_end0
  exact ⟨rfl, h.s0 true, TpZ.set _ _ _ _⟩
/-- The disk with another fuse. -/
def dFuse (d : Dst) (k : Int) : Dst := { d with fused := decide (0 ≤ k), fuse := if 0 ≤ k then k else 0 }
set_option maxHeartbeats 1000000 in
theorem fuse_any (h : Dk W p d) (k : Int) : Calls Tryz.prog 42 #[.pointer (some ⟨p, 0, none⟩), .int .i64 k] W fun e w' => e = .returned (.tuple #[]) ∧ Dk w' p (dFuse d k) ∧ TpZ p W w' := by
  have c1 := h.c1
  have z1 := h.thaw 257
  by_cases hk : 0 ≤ k
  · have h1 := h.s1 true
    have c2 := h1.c2
    have z2 := h1.thaw 258
    go_enter Tryz.func42, Tryz.ntmps42
    go_wp2
    go_end0
    refine ⟨rfl, ?_, (TpZ.set _ _ _ _).trans (TpZ.set _ _ _ _)⟩
    have e : dFuse d k = { { d with fused := true } with fuse := k } := by simp [dFuse, hk]
    rw [e]
    exact h1.s2 k
  · have h1 := h.s1 false
    have c2 := h1.c2
    have z2 := h1.thaw 258
    have hk2 : k ≤ 0 := by omega
    go_enter Tryz.func42, Tryz.ntmps42
    go_wp2
    go_end0
    refine ⟨rfl, ?_, (TpZ.set _ _ _ _).trans (TpZ.set _ _ _ _)⟩
    have e : dFuse d k = { { d with fused := false } with fuse := 0 } := by unfold dFuse; rw [decide_eq_false (Int.not_le.2 hk), if_neg (Int.not_le.2 hk)]
    rw [e]
    exact h1.s2 0
theorem there_any (s : Int) (w : World) : Calls Tryz.prog 299 #[.int .i64 s] w fun e w' => e = .returned (.bool (decide (0 ≤ s ∧ s < 8))) ∧ w' = w := by
  by_cases h1 : 0 ≤ s
  · by_cases h2 : s < 8
    · rw [decide_eq_true (show 0 ≤ s ∧ s < 8 from ⟨h1, h2⟩)]
      go_enter Tryz.func299, Tryz.ntmps299
      go_wp2
      go_ret
      exact ⟨rfl, rfl⟩
    · rw [decide_eq_false (show ¬ (0 ≤ s ∧ s < 8) from fun q => h2 q.2)]
      go_enter Tryz.func299, Tryz.ntmps299
      go_wp2
      go_ret
      exact ⟨rfl, rfl⟩
  · rw [decide_eq_false (show ¬ (0 ≤ s ∧ s < 8) from fun q => h1 q.1)]
    go_enter Tryz.func299, Tryz.ntmps299
    go_wp2
    go_ret
    exact ⟨rfl, rfl⟩
/-- A write is done: the fuse. -/
def dBurn (d : Dst) : Dst := { d with fuse := if d.fused then d.fuse - 1 else d.fuse }
set_option maxHeartbeats 1000000 in
theorem burn_any (h : Dk W p d) (hf : d.fused = true → 0 < d.fuse ∧ d.fuse ≤ 9223372036854775807) : Calls Tryz.prog 302 #[.pointer (some ⟨p, 0, none⟩)] W fun e w' => e = .returned (.tuple #[]) ∧ Dk w' p (dBurn d) ∧ TpZ p W w' := by
  have c1 := h.c1
  have c2 := h.c2
  have z2 := h.thaw 258
  obtain ⟨l, of, fd, fu, wr⟩ := d
  cases fd
  · go_enter Tryz.func302, Tryz.ntmps302
    go_wp2
    go_end0
    exact ⟨rfl, h, TpZ.of _ (Below.refl _ _)⟩
  · obtain ⟨hf1, hf2⟩ := hf rfl
    dsimp only at hf1 hf2 c1 c2
    have hw : IntKind.i64.wrap (fu - 1) = fu - 1 := i64_idZ _ (by omega) (by omega)
    go_enter Tryz.func302, Tryz.ntmps302
    go_wp2
    go_end0
    exact ⟨rfl, h.s2 (fu - 1), TpZ.set _ _ _ _⟩
end
end Go.Proofs.YtklnfbanfgdgcaaGreatDoor
