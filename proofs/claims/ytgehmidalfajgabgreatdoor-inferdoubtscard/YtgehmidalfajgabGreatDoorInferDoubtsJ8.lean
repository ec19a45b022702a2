/- A tally, as mathematics; the cells of sets, one behind the other. -/
import Derived.Test.YtgehmidalfajgabGreatDoorInferDoubtsJ4
import Derived.Test.YtgehmidalfajgabGreatDoorInferDoubtsJ7
import Derived.Test.YtgehmidalfajgabGreatDoorYwa
namespace Go.Proofs.YtgehmidalfajgabGreatDoor
open Go.RowKit Go.Shelf

structure Tl where
  n : Int
  need : Int
  ro : Int
  reps : Nat
  hs : List Nat
def isN (id n : Int) : Bool := decide (0 ≤ id ∧ id < n)
def rdy (t : Tl) : Bool := decide (0 < t.need ∧ (t.hs.length : Int) = t.need)
def wthN (N : Nat) (id : Int) : Nat := if 0 ≤ id ∧ id < 100 then cln N ||| 2 ^ id.toNat else 0
/-- Which fate befalls a reply first; 5: none. -/
def fate (t : Tl) (f r : Int) (N : Nat) : Nat := if isN f t.n = false then 0 else if wthB N t.n = false then 1 else if r ≠ t.ro then 2 else if wthN t.reps f = t.reps then 3 else if rdy t = true then 4 else 5
def cntT (t : Tl) (f : Int) (N : Nat) : Tl := ⟨t.n, t.need, t.ro, wthN t.reps f, t.hs ++ [N]⟩
def tk (t : Tl) (f r : Int) (N : Nat) : Tl := if fate t f r N = 5 then cntT t f N else t
/-- What becomes of a reply; the error. -/
def kd (i : Nat) : Int := match i with | 0 => 5 | 1 => 0 | 2 => 2 | 3 => 3 | 4 => 4 | _ => 1
def ke (i : Nat) : Int := match i with | 1 => 74 | _ => 0
theorem fate_lt (t : Tl) (f r : Int) (N : Nat) : fate t f r N ≤ 5 := by
  unfold fate
  repeat' split
  all_goals omega
/-- A tally that can be. -/
structure Tv (t : Tl) : Prop where
  n0 : 0 ≤ t.n
  n1 : t.n ≤ 100
  d0 : 0 ≤ t.need
  d1 : t.need ≤ t.n
  d2 : 0 < t.n → 0 < t.need
  len : (t.hs.length : Int) ≤ t.need
  reps : t.reps < S100
  each : ∀ N ∈ t.hs, N < S128
theorem pow_S100 {i : Nat} (h : i < 100) : 2 ^ i < S100 := by
  have := Nat.pow_lt_pow_right (a := 2) (by decide) h
  exact this
theorem or_S100 {a b : Nat} (h1 : a < S100) (h2 : b < S100) : a ||| b < S100 := Nat.or_lt_two_pow (n := 100) h1 h2
theorem cln_id {N : Nat} (h : N < S100) : cln N = N := Nat.mod_eq_of_lt h
theorem wthN_lt (N : Nat) (id : Int) : wthN N id < S100 := by
  unfold wthN
  split
  · next h => exact or_S100 (cln_lt _) (pow_S100 (by omega))
  · decide
theorem S100_S128 {N : Nat} (h : N < S100) : N < S128 := Nat.lt_trans h (by decide)
theorem Tv.count {t : Tl} (h : Tv t) {f r : Int} {N : Nat} (hN : N < S128) (hf : fate t f r N = 5) : Tv (cntT t f N) := by
  have h1 := h.len
  have h2 := h.d2
  have ⟨a, b⟩ : isN f t.n = true ∧ ¬ rdy t = true := by
    unfold fate at hf
    repeat' split at hf
    all_goals first | omega | simp_all
  simp only [isN, rdy, decide_eq_true_eq] at a b
  have hn := h.n0
  refine ⟨h.n0, h.n1, h.d0, h.d1, h.d2, ?_, wthN_lt _ _, fun M hM => ?_⟩
  · simp only [cntT, List.length_append, List.length_cons, List.length_nil]
    omega
  · rcases List.mem_append.1 hM with q | q
    · exact h.each M q
    · simp at q
      subst q
      exact hN
theorem Tv.tk {t : Tl} (h : Tv t) {f r : Int} {N : Nat} (hN : N < S128) : Tv (tk t f r N) := by
  unfold Go.Proofs.YtgehmidalfajgabGreatDoor.tk
  split
  · next hf => exact h.count hN hf
  · exact h
/-- The cells of sets. -/
def f4 (N : Nat) : List Value := [.int .u32 (wd N 0 : Nat), .int .u32 (wd N 1 : Nat), .int .u32 (wd N 2 : Nat), .int .u32 (wd N 3 : Nat)]
def fs (l : List Nat) : List Value := l.flatMap f4
theorem fs_cons (x : Nat) (l : List Nat) : fs (x :: l) = .int .u32 (wd x 0 : Nat) :: .int .u32 (wd x 1 : Nat) :: .int .u32 (wd x 2 : Nat) :: .int .u32 (wd x 3 : Nat) :: fs l := rfl
theorem fs_append (a b : List Nat) : fs (a ++ b) = fs a ++ fs b := by simp [fs]
theorem fs_len : ∀ l : List Nat, (fs l).length = l.length * 4
  | [] => rfl
  | x :: l => by rw [fs_cons]; simp only [List.length_cons, fs_len l]; omega
theorem fs_get : ∀ (l : List Nat) (k x : Nat), l[k]? = some x → (fs l)[k * 4]? = some (.int .u32 (wd x 0 : Nat)) ∧ (fs l)[k * 4 + 1]? = some (.int .u32 (wd x 1 : Nat)) ∧ (fs l)[k * 4 + 2]? = some (.int .u32 (wd x 2 : Nat)) ∧ (fs l)[k * 4 + 3]? = some (.int .u32 (wd x 3 : Nat))
  | [], k, x, h => by simp at h
  | y :: l, 0, x, h => by
    simp at h
    subst h
    exact ⟨rfl, rfl, rfl, rfl⟩
  | y :: l, k + 1, x, h => by
    have ih := fs_get l k x (by simpa using h)
    rw [fs_cons, show (k + 1) * 4 = k * 4 + 4 by omega]
    exact ih
theorem fs_one (l : List Nat) : ∀ u ∈ fs l, u.oneCell' = true := by
  intro u hu
  simp only [fs, List.mem_flatMap, f4] at hu
  obtain ⟨x, _, hx⟩ := hu
  simp at hx
  rcases hx with rfl | rfl | rfl | rfl <;> rfl
theorem sv_inj {A B : Nat} (hA : A < S128) (hB : B < S128) (h : sv A = sv B) : A = B := by
  simp only [sv, Value.agg.injEq, Array.mk.injEq, List.cons.injEq, Value.int.injEq, Int.natCast_inj, and_true, true_and] at h
  obtain ⟨h0, h1, h2, h3⟩ := h
  rw [wd_0, wd_0] at h0
  rw [wd_1, wd_1] at h1
  rw [wd_2, wd_2] at h2
  rw [wd_3, wd_3] at h3
  unfold S128 at hA hB
  omega
end Go.Proofs.YtgehmidalfajgabGreatDoor
namespace Go.Proofs.YtgehmidalfajgabGreatDoor
open Go.RowKit Go.Shelf

/-- These sets lie there. -/
def SsAt (W : World) (b off : Nat) (l : List Nat) : Prop := ∀ (k x : Nat), l[k]? = some x → W.cell? ⟨b, off + k * 4, none⟩ = some (.int .u32 (wd x 0 : Nat)) ∧ W.cell? ⟨b, off + k * 4 + 1, none⟩ = some (.int .u32 (wd x 1 : Nat)) ∧ W.cell? ⟨b, off + k * 4 + 2, none⟩ = some (.int .u32 (wd x 2 : Nat)) ∧ W.cell? ⟨b, off + k * 4 + 3, none⟩ = some (.int .u32 (wd x 3 : Nat))
def RdS (W : World) (ad : Option Addr) (l : List Nat) : Prop := l ≠ [] → ∃ b off, ad = some ⟨b, off, none⟩ ∧ b < W.heap.size ∧ SsAt W b off l
theorem SsAt.carry {W W' : World} {b off : Nat} {l : List Nat} (h : SsAt W b off l) (e : W'.heap[b]? = W.heap[b]?) : SsAt W' b off l := fun k x hk => by
  obtain ⟨c0, c1, c2, c3⟩ := h k x hk
  exact ⟨(World.cell?_of_block (a := ⟨b, _, none⟩) e).trans c0, (World.cell?_of_block (a := ⟨b, _, none⟩) e).trans c1, (World.cell?_of_block (a := ⟨b, _, none⟩) e).trans c2, (World.cell?_of_block (a := ⟨b, _, none⟩) e).trans c3⟩
theorem RdS.carry {W W' : World} {ad : Option Addr} {l : List Nat} (h : RdS W ad l) (hb : Below W.heap.size W W') : RdS W' ad l := fun hl => by
  obtain ⟨b, off, e, h1, h2⟩ := h hl
  exact ⟨b, off, e, Nat.lt_of_lt_of_le h1 hb.size, h2.carry (hb.block _ h1)⟩
theorem RdS.own {W : World} {base c : Nat} {ad : Option Addr} {l : List Nat} (h : W.ownsRow base 25 4 (.slice ad l.length c) l.length (fs l)) : RdS W ad l := fun hl => by
  rcases own_form h with ⟨_, e2⟩ | ⟨g, cap, e1, _, h3, _⟩
  · exact absurd (List.length_eq_zero_iff.1 e2) hl
  · simp only [Value.slice.injEq] at e1
    obtain ⟨rfl, _, rfl⟩ := e1
    refine ⟨g, 0, rfl, h3, fun k x hk => ?_⟩
    have hlt : k < l.length := (List.getElem?_eq_some_iff.1 hk).1
    obtain ⟨c0, c1, c2, c3⟩ := fs_get l k x hk
    rw [Nat.zero_add]
    exact ⟨(h.cellAt _ (by omega)).trans c0, (h.cellAt _ (by omega)).trans c1, (h.cellAt _ (by omega)).trans c2, (h.cellAt _ (by omega)).trans c3⟩
theorem idx_s (g off n cap k : Nat) (h : k < n) (w : World) : (Instr.indexAt 112 (.slice (some ⟨g, off, none⟩) n cap) (.int .i64 (k : Int))).run Tryz.prog w = .ok (.pointer (some ⟨g, off + k * 4, none⟩)) w := by
  have h1 : (k : Int) < (n : Int) := by omega
  go_simp
theorem load_s {W : World} {b off N : Nat} (c0 : W.cell? ⟨b, off, none⟩ = some (.int .u32 (wd N 0 : Nat))) (c1 : W.cell? ⟨b, off + 1, none⟩ = some (.int .u32 (wd N 1 : Nat))) (c2 : W.cell? ⟨b, off + 2, none⟩ = some (.int .u32 (wd N 2 : Nat))) (c3 : W.cell? ⟨b, off + 3, none⟩ = some (.int .u32 (wd N 3 : Nat))) : (Instr.loadAt 25 (.pointer (some ⟨b, off, none⟩))).run Tryz.prog W = .ok (sv N) W := by
  unfold sv
  go_simp
theorem load_sk {W : World} {b off : Nat} {l : List Nat} (h : SsAt W b off l) {k x : Nat} (hk : l[k]? = some x) : (Instr.loadAt 25 (.pointer (some ⟨b, off + k * 4, none⟩))).run Tryz.prog W = .ok (sv x) W := by
  obtain ⟨c0, c1, c2, c3⟩ := h k x hk
  exact load_s c0 c1 c2 c3
theorem ext2_0 (a b : Value) (w : World) : (Instr.extract (.tuple #[a, b]) 0).run Tryz.prog w = .ok a w := by kernel_rfl
theorem ext2_1 (a b : Value) (w : World) : (Instr.extract (.tuple #[a, b]) 1).run Tryz.prog w = .ok b w := by kernel_rfl
end Go.Proofs.YtgehmidalfajgabGreatDoor
namespace Go.Proofs.YtgehmidalfajgabGreatDoor
open Go.RowKit Go.Shelf

def ob (ad : Option Addr) : Option Nat := ad.map (·.block)
theorem ob_eq (ad : Option Addr) (n c : Nat) : (Value.slice ad n c).ownBlock = ob ad := by cases ad <;> rfl
theorem infoS : (Tryz.prog.info? 25).map (·.size) = some 4 := by kernel_rfl
theorem below_row {w0 w : World} {n b : Nat} (h : Below n w0 w) (hb : n ≤ b) (cs : Array Value) : Below n w0 (w.setRow b cs) :=
  ⟨h.os, h.tape, h.output, by simpa using h.size, fun k hk => (setRow_other _ _ _ _ (by omega)).trans (h.block k hk)⟩
def taC (t : Tl) (S : Value) : Array Value := #[.int .i64 t.n, .int .i64 t.need, .int .i64 t.ro, .int .u32 (wd t.reps 0 : Nat), .int .u32 (wd t.reps 1 : Nat), .int .u32 (wd t.reps 2 : Nat), .int .u32 (wd t.reps 3 : Nat), S]
/-- A tally: its block q, its list. -/
structure Ta (W : World) (base q : Nat) (ad : Option Addr) (cap : Nat) (t : Tl) : Prop where
  qb : base ≤ q
  obj : W.heap[q]? = some (.cells (taC t (.slice ad t.hs.length cap)) 114 (0, 0))
  row : W.ownsRow base 25 4 (.slice ad t.hs.length cap) t.hs.length (fs t.hs)
section
variable {W V : World} {base q : Nat} {ad : Option Addr} {cap : Nat} {t : Tl}
theorem Ta.lt (h : Ta W base q ad cap t) : q < W.heap.size := lt_at h.obj
theorem Ta.carry (h : Ta W base q ad cap t) (hb : Below W.heap.size W V) : Ta V base q ad cap t := ⟨h.qb, (hb.block _ h.lt).trans h.obj, row_below h.row hb⟩
theorem Ta.ne (h : Ta W base q ad cap t) : ob ad ≠ some q := fun e => row_type h.row h.obj (by decide) (by rw [ob_eq]; exact e)
theorem Ta.blk (h : Ta W base q ad cap t) {b : Nat} (e : ob ad = some b) : base ≤ b ∧ ∃ cur, W.heap[b]? = some (.cells cur 25 (0, 0)) := rowBlk h.row b (by rw [ob_eq]; exact e)
theorem Ta.cells (h : Ta W base q ad cap t) : W.cell? ⟨q, 0, none⟩ = some (.int .i64 t.n) ∧ W.cell? ⟨q, 1, none⟩ = some (.int .i64 t.need) ∧ W.cell? ⟨q, 2, none⟩ = some (.int .i64 t.ro) ∧ W.cell? ⟨q, 3, none⟩ = some (.int .u32 (wd t.reps 0 : Nat)) ∧ W.cell? ⟨q, 4, none⟩ = some (.int .u32 (wd t.reps 1 : Nat)) ∧ W.cell? ⟨q, 5, none⟩ = some (.int .u32 (wd t.reps 2 : Nat)) ∧ W.cell? ⟨q, 6, none⟩ = some (.int .u32 (wd t.reps 3 : Nat)) ∧ W.cell? ⟨q, 7, none⟩ = some (.slice ad t.hs.length cap) :=
  ⟨cell_at h.obj 0, cell_at h.obj 1, cell_at h.obj 2, cell_at h.obj 3, cell_at h.obj 4, cell_at h.obj 5, cell_at h.obj 6, cell_at h.obj 7⟩
/-- A block that is no tally's abides. -/
theorem Ta.stays (h : Ta W base q ad cap t) {g' : Option Nat} (ht : Tn q (ob ad) g' W V) {k : Nat} {cur : Array Value} {ty : TypeId} {z : Nat × Nat} (hk : W.heap[k]? = some (.cells cur ty z)) (h1 : ty ≠ 114) (h2 : ty ≠ 25) : V.heap[k]? = some (.cells cur ty z) := by
  refine (ht.block k (lt_at hk) (fun e => ?_) (fun e => ?_)).trans hk
  · subst e
    have := hk.symm.trans h.obj
    simp only [Option.some.injEq, Obj.cells.injEq] at this
    exact h1 this.2.1
  · obtain ⟨_, cur', h3⟩ := h.blk e.symm
    have := hk.symm.trans h3
    simp only [Option.some.injEq, Obj.cells.injEq] at this
    exact h2 this.2.1
theorem Ta.below (h : Ta W base q ad cap t) {g' : Option Nat} (ht : Tn q (ob ad) g' W V) : Below base W V := ht.below h.qb (fun _ e => (h.blk e).1) (Nat.le_trans h.qb (Nat.le_of_lt h.lt))
theorem isNode_any (id n : Int) (w : World) : Calls Tryz.prog 83 #[.int .i64 id, .int .i64 n] w fun e w' => e = .returned (.bool (isN id n)) ∧ w' = w := by
  go_enter Tryz.func83, Tryz.ntmps83
  go_wp2
  all_goals
    go_ret
    refine ⟨ret_bool ?_, rfl⟩
    unfold isN
    first
    | (have h : 0 ≤ id := by omega
       simp [h])
    | (have h : ¬ 0 ≤ id := by omega
       simp [h])
set_option maxHeartbeats 1000000 in
theorem kept_any (h : Ta W base q ad cap t) : Calls Tryz.prog 144 #[.pointer (some ⟨q, 0, none⟩)] W fun e w' => e = .returned (.slice ad t.hs.length cap) ∧ w' = W := by
  obtain ⟨_, _, _, _, _, _, _, c7⟩ := h.cells
  go_enter Tryz.func144, Tryz.ntmps144
  go_wp2
  go_ret
  exact ⟨rfl, rfl⟩
set_option maxHeartbeats 1000000 in
theorem need_any (h : Ta W base q ad cap t) : Calls Tryz.prog 135 #[.pointer (some ⟨q, 0, none⟩)] W fun e w' => e = .returned (.int .i64 t.need) ∧ w' = W := by
  obtain ⟨_, c1, _⟩ := h.cells
  go_enter Tryz.func135, Tryz.ntmps135
  go_wp2
  go_ret
  exact ⟨rfl, rfl⟩
set_option maxHeartbeats 1000000 in
theorem have_any (h : Ta W base q ad cap t) : Calls Tryz.prog 136 #[.pointer (some ⟨q, 0, none⟩)] W fun e w' => e = .returned (.int .i64 (t.hs.length : Int)) ∧ w' = W := by
  have hk := kept_any h
  go_enter Tryz.func136, Tryz.ntmps136
  go_wp2_with (go_at_call 144; (with_reducible refine hk.mono ?_); rintro e u ⟨rfl, hu⟩; obtain rfl := hu.symm)
  go_ret
  exact ⟨rfl, rfl⟩
set_option maxHeartbeats 1000000 in
theorem ready_any (h : Ta W base q ad cap t) : Calls Tryz.prog 88 #[.pointer (some ⟨q, 0, none⟩)] W fun e w' => e = .returned (.bool (rdy t)) ∧ w' = W := by
  have hn := need_any h
  have hh := have_any h
  go_enter Tryz.func88, Tryz.ntmps88
  go_wp2_with (first | (go_at_call 135; (with_reducible refine hn.mono ?_); rintro e u ⟨rfl, hu⟩; obtain rfl := hu.symm) | (go_at_call 136; (with_reducible refine hh.mono ?_); rintro e u ⟨rfl, hu⟩; obtain rfl := hu.symm))
  all_goals
    go_ret
    refine ⟨ret_bool ?_, rfl⟩
    unfold rdy
    first
    | (have h : 0 < t.need := by omega
       simp [h]
       rfl)
    | (have h : ¬ 0 < t.need := by omega
       simp [h])
set_option maxHeartbeats 1000000 in
set_option maxRecDepth 100000 in
theorem reps_any (h : Ta W base q ad cap t) : Calls Tryz.prog 139 #[.pointer (some ⟨q, 0, none⟩)] W fun e w' => e = .returned (sv t.reps) ∧ Below W.heap.size W w' := by
  obtain ⟨w1, hw1⟩ : ∃ w1, W.alloc (.cells #[.int .u32 0, .int .u32 0, .int .u32 0, .int .u32 0] 25) = w1 := ⟨_, rfl⟩
  have hb1 : Below W.heap.size W w1 := by rw [← hw1]; exact al1' _ _
  have g1 : Holds4 w1 W.heap.size (fun _ => 0) := by rw [← hw1]; exact new_at rfl
  obtain ⟨_, _, _, c3, c4, c5, c6, _⟩ := (h.carry hb1).cells
  obtain ⟨y0, y1, y2, y3, z0, z1, z2, z3⟩ := g1.facts
  have G1 : Hid (Holds4 w1 W.heap.size (fun _ => 0)) := g1
  clear g1
  go_enter Tryz.func139, Tryz.ntmps139
  go_wp2
  exact ret4 rfl rfl rfl (fin4 G1.out _) ⟨rfl, below4 hb1 (Nat.le_refl _) _⟩
set_option maxHeartbeats 1000000 in
set_option maxRecDepth 100000 in
theorem twith_any (h : Ta W base q ad cap t) (id : Int) : Calls Tryz.prog 130 #[.pointer (some ⟨q, 0, none⟩), .int .i64 id] W fun e w' => e = .returned (sv (wthN t.reps id)) ∧ Below W.heap.size W w' := by
  have hwi := with_any t.reps id
  obtain ⟨E, hV⟩ : ∃ E : Int, withV t.reps id = .tuple #[sv (wthN t.reps id), .int .i64 E] := by
    unfold withV wthN
    split
    · exact ⟨0, rfl⟩
    · exact ⟨30, rfl⟩
  rw [hV] at hwi
  clear hV
  generalize wthN t.reps id = M at *
  obtain ⟨w1, hw1⟩ : ∃ w1, W.alloc (.cells #[.int .u32 0, .int .u32 0, .int .u32 0, .int .u32 0] 25) = w1 := ⟨_, rfl⟩
  have hb1 : Below W.heap.size W w1 := by rw [← hw1]; exact al1' _ _
  have hs1 : W.heap.size < w1.heap.size := by rw [← hw1]; simp
  have g1 : Holds4 w1 W.heap.size (fun _ => 0) := by rw [← hw1]; exact new_at rfl
  obtain ⟨_, _, _, c3, c4, c5, c6, _⟩ := (h.carry hb1).cells
  simp only [sv] at hwi ⊢
  go_enter Tryz.func130, Tryz.ntmps130
  go_wp2_with (first
    | (go_at_call 25; refine (hwi _).mono ?_; rintro e u ⟨rfl, hb⟩; obtain ⟨w2, hw2⟩ : ∃ w2, u.alloc (.cells #[.int .u32 0, .int .u32 0, .int .u32 0, .int .u32 0] 25) = w2 := ⟨_, rfl⟩; have hb2 : Hid (Below W.heap.size W w2) := (by rw [← hw2]; exact bel2 (bel2 hb1 hb) (al1' _ _)); have g2 : Hid (Holds4 w2 W.heap.size (fun _ => 0)) := (by rw [← hw2]; exact old_at (g1.carry hb)); have g3 : Hid (Holds4 w2 u.heap.size (fun _ => 0)) := (by rw [← hw2]; exact new_at rfl); have hs2 : Hid (W.heap.size < u.heap.size) := Nat.lt_of_lt_of_le hs1 hb.size)
    | (refine wpList_store_row rfl 25 (.tmp 5) (.tmp 14) rfl u.heap.size (cells4 (wd M)) rfl rfl 25 _ g3.out infoS rfl (by simp [cells4, Value.oneCell']) ?_; obtain ⟨w3, hw3⟩ : ∃ v, w2.setRow u.heap.size (cells4 (wd M)) = v := ⟨_, rfl⟩; have g4 : Hid (Holds4 w3 u.heap.size (wd M)) := (by rw [← hw3]; exact setRow_heap _ _ _ _ _ _ g3.out); have g5 : Hid (Holds4 w3 W.heap.size (fun _ => 0)) := (by rw [← hw3]; exact (setRow_other _ _ _ _ (Nat.ne_of_lt hs2.out)).trans g2.out); have hb3 : Hid (Below W.heap.size W w3) := (by rw [← hw3]; exact below_row hb2.out (Nat.le_of_lt hs2.out) _); rw [hw3])
    | (refine wpList_load_row rfl 25 (.tmp 5) rfl u.heap.size rfl 25 _ (0, 0) _ g4.out Tryz.underlying25 rfl infoS ?_)
    | (refine wpList_store_row rfl 25 (.tmp 4) (.tmp 16) rfl W.heap.size (cells4 (wd M)) rfl rfl 25 _ g5.out infoS rfl (by simp [cells4, Value.oneCell']) ?_; obtain ⟨w4, hw4⟩ : ∃ v, w3.setRow W.heap.size (cells4 (wd M)) = v := ⟨_, rfl⟩; have g6 : Hid (Holds4 w4 W.heap.size (wd M)) := (by rw [← hw4]; exact setRow_heap _ _ _ _ _ _ g5.out); have hb4 : Hid (Below W.heap.size W w4) := (by rw [← hw4]; exact below_row hb3.out (Nat.le_refl _) _); rw [hw4]))
  exact ret4 rfl rfl rfl g6.out ⟨rfl, hb4.out⟩
end
end Go.Proofs.YtgehmidalfajgabGreatDoor
