/- Books beside each other: what turns one leaves the others. -/
import Derived.Test.YtlpmehmoeladjaaGreatDoorJnJ7
import Derived.Laws.CopyRow
import Derived.RangeFuncNested
import Derived.RangeFuncBound
import Derived.RangeFuncCalls
namespace Go.Proofs.YtlpmehmoeladjaaGreatDoor
open Go.RowKit Go.Shelf

/-- Books that were made from w on, each in blocks of its own. -/
structure Bks (w : World) (L : List (Nat × Nat × List N3)) (W : World) : Prop where
  all : ∀ (i : Nat) (x : Nat × Nat × List N3), L[i]? = some x → Bk W x.1 x.2.1 x.2.2
  new : ∀ (i : Nat) (x : Nat × Nat × List N3), L[i]? = some x → w.heap.size ≤ x.1 ∧ w.heap.size ≤ x.2.1
  apart : ∀ (i j : Nat) (x y : Nat × Nat × List N3), L[i]? = some x → L[j]? = some y → i ≠ j → x.1 ≠ y.2.1 ∧ x.2.1 ≠ y.2.1
  below : Below w.heap.size w W
theorem Bks.nil (w : World) : Bks w [] w := ⟨fun i x h => by simp at h, fun i x h => by simp at h, fun i j x y h => by simp at h, Below.refl _ _⟩
theorem Bks.get {w W : World} {L : List (Nat × Nat × List N3)} (h : Bks w L W) (i : Nat) {p g : Nat} {l : List N3} (hi : L[i]? = some (p, g, l)) : Bk W p g l := h.all i _ hi
theorem Bks.base {w W : World} {L : List (Nat × Nat × List N3)} (h : Bks w L W) (i : Nat) {p g : Nat} {l : List N3} (hi : L[i]? = some (p, g, l)) : w.heap.size ≤ g := (h.new i _ hi).2
theorem Bks.carry {w W V : World} {L : List (Nat × Nat × List N3)} (h : Bks w L W) (hb : Below W.heap.size W V) : Bks w L V := ⟨fun i x hx => (h.all i x hx).carry hb, h.new, h.apart, bel2 h.below hb⟩
theorem Bks.add {w W V : World} {L : List (Nat × Nat × List N3)} (h : Bks w L W) (hb : Below W.heap.size W V) {p g : Nat} {l : List N3} (hk : Bk V p g l) (hp : W.heap.size ≤ p) (hg : W.heap.size ≤ g) : Bks w (L ++ [(p, g, l)]) V := by
  have hz := h.below.size
  have key : ∀ (i : Nat) x, (L ++ [(p, g, l)])[i]? = some x → L[i]? = some x ∨ (i = L.length ∧ x = (p, g, l)) := fun i x hx => by
    by_cases hi : i < L.length
    · rw [List.getElem?_append_left hi] at hx; exact .inl hx
    · rw [List.getElem?_append_right (by omega)] at hx
      have : i - L.length = 0 := by
        have := (List.getElem?_eq_some_iff.1 hx).1
        simp at this
        omega
      rw [this] at hx
      exact .inr ⟨by omega, (Option.some.inj hx).symm⟩
  refine ⟨fun i x hx => ?_, fun i x hx => ?_, fun i j x y hx hy hij => ?_, bel2 h.below hb⟩
  · rcases key i x hx with hx | ⟨_, rfl⟩
    · exact (h.all i x hx).carry hb
    · exact hk
  · rcases key i x hx with hx | ⟨_, rfl⟩
    · exact h.new i x hx
    · exact ⟨by simp only; omega, by simp only; omega⟩
  · rcases key i x hx with hx | ⟨ei, rfl⟩ <;> rcases key j y hy with hy | ⟨ej, rfl⟩
    · exact h.apart i j x y hx hy hij
    · have := (h.all i x hx).plt
      have := (h.all i x hx).glt
      exact ⟨by simp only; omega, by simp only; omega⟩
    · have := (h.all j y hy).plt
      have := (h.all j y hy).glt
      exact ⟨by simp only; omega, by simp only; omega⟩
    · omega
/-- One of them turns. -/
theorem Bks.turn {w W V : World} {L : List (Nat × Nat × List N3)} (h : Bks w L W) (i : Nat) {p g : Nat} {l l' : List N3} (hi : L[i]? = some (p, g, l)) (hk : Bk V p g l') (hg : W.grownBy V (some g)) : Bks w (L.set i (p, g, l')) V := by
  have hil : i < L.length := (List.getElem?_eq_some_iff.1 hi).1
  have hz := h.below.size
  have key : ∀ (j : Nat) x, (L.set i (p, g, l'))[j]? = some x → (j ≠ i ∧ L[j]? = some x) ∨ (j = i ∧ x = (p, g, l')) := fun j x hx => by
    rw [List.getElem?_set] at hx
    by_cases e : i = j
    · subst e
      simp only [hil, if_true] at hx
      exact .inr ⟨rfl, (Option.some.inj hx).symm⟩
    · rw [if_neg e] at hx
      exact .inl ⟨fun q => e q.symm, hx⟩
  have hgw : w.heap.size ≤ g := (h.new i _ hi).2
  refine ⟨fun j x hx => ?_, fun j x hx => ?_, fun j k x y hx hy hjk => ?_, ?_⟩
  · rcases key j x hx with ⟨e, hx⟩ | ⟨_, rfl⟩
    · have := h.apart j i x _ hx hi e
      exact (h.all j x hx).other hg this.1 this.2
    · exact hk
  · rcases key j x hx with ⟨_, hx⟩ | ⟨_, rfl⟩
    · exact h.new j x hx
    · exact h.new i (p, g, l) hi
  · rcases key j x hx with ⟨e, hx⟩ | ⟨e, rfl⟩ <;> rcases key k y hy with ⟨f, hy⟩ | ⟨f, rfl⟩
    · exact h.apart j k x y hx hy hjk
    · exact h.apart j i x (p, g, l) hx hi e
    · exact h.apart i k (p, g, l) y hi hy (fun q => hjk (e.trans q))
    · omega
  · exact h.below.trans ⟨hg.os, hg.tape, hg.output, hg.size, fun k hk => hg.block k (by omega) (by simp only [ne_eq, Option.some.injEq]; omega)⟩
/-- What was handed in lies below every one of them. -/
theorem RdN.ne {w : World} {ad : Option Addr} {m : List N3} (h : RdN w ad m) {g : Nat} (hg : w.heap.size ≤ g) : m ≠ [] → ∀ a, ad = some a → a.block ≠ g := by
  intro hm a ha
  obtain ⟨b, off, e, hb, _⟩ := h hm
  rw [ha] at e
  obtain rfl := Option.some.inj e
  simp only
  omega
theorem take_some {w : World} {p g : Nat} {l : List N3} (h : Bk w p g l) (o t k : Int) : Calls Tryz.prog 24 #[.pointer (some ⟨p, 0, none⟩), nt o t k] w fun e w' => (∃ (B : Bool) (E : Int), e = .returned (.tuple #[.bool B, .int .i64 E])) ∧ Bk w' p g (tke l (o, t, k)) ∧ w.grownBy w' (some g) := (take_any h o t k).mono fun _ _ hq => ⟨⟨_, _, hq.1⟩, hq.2⟩
theorem merge_some {w : World} {p g : Nat} {l : List N3} (h : Bk w p g l) (ad : Option Addr) (cap : Nat) (m : List N3) (hm : RdN w ad m) (hne : m ≠ [] → ∀ a, ad = some a → a.block ≠ g) (hl : m.length ≤ 6000000000000) : Calls Tryz.prog 14 #[.pointer (some ⟨p, 0, none⟩), .slice ad m.length cap] w fun e w' => (∃ (N : Nat) (E : Int), e = .returned (.tuple #[.agg #[.int .u32 (wd N 0 : Nat), .int .u32 (wd N 1 : Nat), .int .u32 (wd N 2 : Nat), .int .u32 (wd N 3 : Nat)], .int .i64 E])) ∧ Bk w' p g (mrg l m) ∧ w.grownBy w' (some g) := (merge_any h ad cap m hm hne hl).mono fun _ _ hq => ⟨⟨_, _, hq.1⟩, hq.2⟩
theorem NewV.bad {n self tag : Int} {w w' : World} {e : Ending} (h : NewV n self tag w e w') (hb : ¬ (¬ (n < 1 ∨ 100 < n) ∧ ¬ (self < 0 ∨ n ≤ self) ∧ ¬ (tag < 0 ∨ 1048576 < tag))) : ∃ E : Int, (E != 0) = true ∧ e = .returned (.tuple #[.pointer none, .int .i64 E]) := by
  have := h.2
  by_cases h1 : n < 1 ∨ 100 < n
  · rw [if_pos h1] at this; exact ⟨1, by decide, this⟩
  · rw [if_neg h1] at this
    by_cases h2 : self < 0 ∨ n ≤ self
    · rw [if_pos h2] at this; exact ⟨30, by decide, this⟩
    · rw [if_neg h2] at this
      by_cases h3 : tag < 0 ∨ 1048576 < tag
      · rw [if_pos h3] at this; exact ⟨50, by decide, this⟩
      · exact absurd ⟨h1, h2, h3⟩ hb
end Go.Proofs.YtlpmehmoeladjaaGreatDoor
namespace Go.Proofs.YtlpmehmoeladjaaGreatDoor
open Go.RowKit Go.Shelf

theorem run_copy3 (w : World) (ty : TypeId) (g b n : Nat) (cur : Array Value) (t : TypeId) (cs : List Value) (hg : w.heap[g]? = some (.cells cur t (0, 0))) (hn : cs.length = n * 3)
    (hsrc : ∀ j v, cs[j]? = some v → w.cell? ((⟨b, 0, none⟩ : Addr).add j) = some v) (hfit : cs.length = cur.size) (h1 : ∀ v ∈ cs, v.oneCell' = true) :
    (Builtin.copy_ #[44, 44] ty #[.slice (some ⟨g, 0, none⟩) n n, .slice (some ⟨b, 0, none⟩) n n]).run Tryz.prog w = .ok (goInt n) (w.setRow g cs.toArray) := by
  have hl := run_loadCells_list (P := Tryz.prog) w ⟨b, 0, none⟩ cs hsrc
  have hst := run_storeCells_at Tryz.prog g 0 t cs 0 cur w hg (by omega) h1
  obtain ⟨ic, hic, _, hz1, _⟩ := info_partsN
  have e : cur.toList.take 0 ++ cs ++ cur.toList.drop (0 + cs.length) = cs := by
    rw [List.drop_of_length_le (by simp; omega)]
    simp
  simp only [Nat.zero_add, Nat.add_zero] at hst
  simp [Builtin.copy_, run_underlying Tryz.underlying44, Builtin.lenOf, Builtin.firstCells, sizeOf, typeInfo, hic, hz1, ← hn, hl, hst]
  rw [List.drop_of_length_le (by simp; omega)]
  simp
theorem bi_copy3 (w : World) (ty : TypeId) (bs : Array Bool) (g b n : Nat) (cur : Array Value) (t : TypeId) (cs : List Value) (hg : w.heap[g]? = some (.cells cur t (0, 0))) (hn : cs.length = n * 3)
    (hsrc : ∀ j v, cs[j]? = some v → w.cell? ((⟨b, 0, none⟩ : Addr).add j) = some v) (hfit : cs.length = cur.size) (h1 : ∀ v ∈ cs, v.oneCell' = true) :
    (builtin .copy #[44, 44] ty bs #[.slice (some ⟨g, 0, none⟩) n n, .slice (some ⟨b, 0, none⟩) n n]).run Tryz.prog w = .ok (.value (.int .i64 (n : Int))) (w.setRow g cs.toArray) := by
  have h := run_copy3 w ty g b n cur t cs hg hn hsrc hfit h1
  unfold builtin
  simp only [Sem.run_bind, h, Result.andThen_ok, Sem.run_pure]
  rfl
section
variable {P : Program} {md : Region.Mode} {ops : Array Oper} {Q : Exit → Act → World → Prop} {X0 : Array Value} {val : Nat → Value} {J J' : World → Prop} {i : Nat} {o : Oper}
theorem step_biW (hi : ops[i]? = some o) (hg : GOk md ops X0 val i o) (b : Builtin) (xs : Array Operand) (ts : Array TypeId) (vs : List Value) (ho : o.op = .call { callee := .builtin b, args := xs, argTypes := ts })
    (hx : xs.toList.map (rdo md ops X0 val i o) = vs.map some) (hr : ∀ w, J w → ∃ w', (∀ cs, (builtin b ts o.type cs vs.toArray).run P w = .ok (.value (val i)) w') ∧ J' w') : StepAt P md ops Q X0 val J J' i o :=
  step_of hi hg fun a w hJ hS => by
    unfold Oper.wp execOp
    have e : xs.map a.eval = vs.toArray := by
      apply Array.toList_inj.1
      rw [Array.toList_map]
      exact hS.evals _ _ hx
    obtain ⟨w', hr1, hr2⟩ := hr w hJ
    simp only [ho, resolve, e, Sem.run_bind, Sem.run_pure, Result.andThen_ok, invoke, hr1 _, Oper.upon_value]
    exact ⟨trivial, hr2⟩
end
theorem fl_src (l : List N3) {W : World} {p g : Nat} (h : Bk W p g l) : ∀ j v, (fl l)[j]? = some v → W.cell? ((⟨g, 0, none⟩ : Addr).add j) = some v := fun j v hj => by
  rw [add_pl, Nat.zero_add]
  exact (cell_at h.row j).trans (by simpa using hj)
theorem Bk.setRow {W : World} {p g : Nat} {l m : List N3} (h : Bk W p g l) (hm : m.length = l.length) : Bk (W.setRow g (fl m).toArray) p g m := by
  refine ⟨?_, ?_⟩
  · have e : (W.setRow g (fl m).toArray).heap[p]? = W.heap[p]? := by simp [World.setRow, Array.getElem?_modify, h.ne.symm]
    rw [e, hm]
    exact h.obj
  · simp [World.setRow, Array.getElem?_modify, h.row]
theorem Bk.setRow_other {W : World} {p g b : Nat} {l : List N3} {cs : Array Value} (h : Bk W p g l) (h1 : b ≠ p) (h2 : b ≠ g) : Bk (W.setRow b cs) p g l := by
  refine ⟨?_, ?_⟩
  · have e : (W.setRow b cs).heap[p]? = W.heap[p]? := by simp [World.setRow, Array.getElem?_modify, h1]
    rw [e]; exact h.obj
  · have e : (W.setRow b cs).heap[g]? = W.heap[g]? := by simp [World.setRow, Array.getElem?_modify, h2]
    rw [e]; exact h.row
theorem below_sr {n b : Nat} {w W : World} {cs : Array Value} (h : Below n w W) (hn : n ≤ b) : Below n w (W.setRow b cs) :=
  h.trans ⟨rfl, rfl, rfl, by simp [World.setRow], fun k hk => by simp [World.setRow, Array.getElem?_modify, show b ≠ k by omega]⟩
set_option maxHeartbeats 4000000 in
set_option maxRecDepth 100000 in
theorem twin_any {w : World} {p g : Nat} {l : List N3} (h : Bk w p g l) (h0 : 0 < l.length) (h1 : l.length ≤ 100) : Calls Tryz.prog 87 #[.pointer (some ⟨p, 0, none⟩)] w fun e w' => ∃ p' g', e = .returned (.pointer (some ⟨p', 0, none⟩)) ∧ w.heap.size ≤ p' ∧ w.heap.size ≤ g' ∧ Bk w' p' g' l ∧ Below w.heap.size w w' := by
  have hmx : Tryz.prog.follows .mixedOrders = true := by kernel_rfl
  obtain ⟨N, hN⟩ : ∃ N, l.length = N := ⟨_, rfl⟩
  have HN : Hid (l.length = N) := hN
  have hsz := bsize_any (h.alloc (.cells #[.slice none 0 0] 93))
  rw [hN] at hsz h0 h1
  clear hN
  have hpi : (0 : Int) < (N : Int) := by omega
  obtain ⟨ic, hic, hz0, hz1, hz2⟩ := info_partsN
  have hmk : ∀ W : World, (Instr.makeSlice 44 (.int .i64 (N : Int)) (.int .i64 (N : Int))).run Tryz.prog W = .ok (.slice (some ⟨W.heap.size, 0, none⟩) N N) (W.alloc (.cells (fl (mkl N 0)).toArray 60)) := by
    intro W
    have := run_make (P := Tryz.prog) W 44 60 ic _ Tryz.underlying44 hic hz0 .i64 .i64 (N : Int) (N : Int) (by omega) (Int.le_refl _) (by rw [hz2]; omega) (by omega)
    rw [Int.toNat_natCast, hz1, made3, ← mkl_zero] at this
    exact this
  generalize hM0 : (fl (mkl N 0)).toArray = M0 at hmk
  have HM0 : Hid ((fl (mkl N 0)).toArray = M0) := hM0
  clear hM0 hic hz0 hz1 hz2
  go_enter Tryz.func87, Tryz.ntmps87
  go_wp2_with (go_at_call 36; (with_reducible refine hsz.mono ?_); rintro e u1 ⟨rfl, hb1⟩; have hbx : u1.heap[w.heap.size]? = some (.cells #[.slice none 0 0] 93 (0, 0)) := (hb1.block _ (by simp)).trans (new_at rfl); have hk1 : Bk u1 p g l := (h.alloc _).carry hb1; have hbw := bel2 (al1 w (.cells #[.slice none 0 0] 93)) hb1; have HBX : Hid (u1.heap[w.heap.size]? = some (.cells #[.slice none 0 0] 93 (0, 0))) := hbx; have x0 := cell_at hbx 0; have x1 := thaw_at hbx 0; have hlt := lt_at hbx; clear hbx; simp at x0)
  have hk2 : Bk ((u1.setCell ⟨w.heap.size, 0, none⟩ (.slice (some ⟨u1.heap.size, 0, none⟩) N N)).alloc (.cells M0 60)) p g l := by
    have hne1 : p ≠ w.heap.size := by have := h.plt; omega
    have hne2 : g ≠ w.heap.size := by have := h.glt; omega
    exact ⟨old_at ((Below.heap_setCell _ _ _ _ hne1).trans hk1.obj), old_at ((Below.heap_setCell _ _ _ _ hne2).trans hk1.row)⟩
  have ht2 : Bk ((u1.setCell ⟨w.heap.size, 0, none⟩ (.slice (some ⟨u1.heap.size, 0, none⟩) N N)).alloc (.cells M0 60)) w.heap.size u1.heap.size (mkl N 0) := by
    refine ⟨?_, ?_⟩
    · have := heap_setCell_same _ _ 0 _ _ (.slice (some ⟨u1.heap.size, 0, none⟩) N N) HBX.out
      rw [mkl_len]
      refine old_at (this.trans ?_)
      simp
    · rw [HM0.out]
      exact new_at (by simp)
  have hb2 : Below w.heap.size w ((u1.setCell ⟨w.heap.size, 0, none⟩ (.slice (some ⟨u1.heap.size, 0, none⟩) N N)).alloc (.cells M0 60)) := (hbw.setCell (Nat.le_refl _) _).alloc (by simpa using hbw.size) _
  have hg1 := h.glt
  have hp1 := h.plt
  refine wp_region_any hmx ?_
  refine wpAny_last 8 (fun i__ => ([(.pointer (some ⟨w.heap.size, 0, none⟩)), (.pointer (some ⟨w.heap.size, 0, none⟩)), (.pointer (some ⟨w.heap.size, 0, none⟩)), (.slice (some ⟨u1.heap.size, 0, none⟩) N N), (.pointer (some ⟨p, 0, none⟩)), (.pointer (some ⟨p, 0, none⟩)), (.pointer (some ⟨p, 0, none⟩)), (.slice (some ⟨g, 0, none⟩) N N), (.int .i64 (N : Int))] : List Value).getD i__ undef) (fun V => Bk V p g l ∧ Bk V w.heap.size u1.heap.size (mkl N 0) ∧ Below w.heap.size w V) (fun V => Bk V w.heap.size u1.heap.size l ∧ Below w.heap.size w V) rfl (by kernel_rfl) (by kernel_rfl) ⟨hk2.carry (Below.refl _ _).drew, ht2.carry (Below.refl _ _).drew, hb2.drew⟩ ?_ ?_  ?_
  · refine (stepsFrom_cons ?_ (stepsFrom_cons ?_ (stepsFrom_cons ?_ (stepsFrom_cons ?_ (stepsFrom_cons ?_ (stepsFrom_cons ?_ (stepsFrom_cons ?_ (stepsFrom_cons ?_ trivial))))))))
    · exact step_move rfl trivial _ rfl (by kernel_rfl)
    · exact step_nilCheck rfl trivial _ _ _ rfl rfl rfl
    · exact step_fieldAddr rfl trivial _ _ _ _ rfl rfl (fun w hw => field_b0 w _)
    · exact step_load rfl trivial _ _ _ rfl rfl (fun w hw => by have := load_b0 hw.2.1; rwa [mkl_len] at this)
    · exact step_move rfl trivial _ rfl (by kernel_rfl)
    · exact step_nilCheck rfl trivial _ _ _ rfl rfl rfl
    · exact step_fieldAddr rfl trivial _ _ _ _ rfl rfl (fun w hw => field_b0 w _)
    · exact step_load rfl trivial _ _ _ rfl rfl (fun w hw => by have := load_b0 hw.1; rwa [HN.out] at this)
  · intro o ho
    cases ho
    exact step_biW rfl trivial _ _ _ [(.slice (some ⟨u1.heap.size, 0, none⟩) N N), (.slice (some ⟨g, 0, none⟩) N N)] rfl (by kernel_rfl) (fun W hw => ⟨_, fun cs => bi_copy3 W _ cs u1.heap.size g N _ _ (fl l) hw.2.1.row (by rw [fl_len, HN.out]) (fl_src l hw.1) (by simp [fl_len, mkl_len, HN.out]) (fl_one l), hw.2.1.setRow (by rw [mkl_len]; exact HN.out), below_sr hw.2.2 (by omega)⟩)
  intro W hW
  first | refine hK _ _ ?_ | refine (‹∀ (a : Act) (w : World), Code.wp Tryz.prog _ _ a w → _›) _ _ ?_
  simp only [finL, List.getD_cons_zero, List.getD_cons_succ, Nat.zero_add, Nat.reduceAdd, List.setIfInBounds_toArray, List.set_cons_zero, List.set_cons_succ]
  go_wp2
  go_ret
  exact ⟨_, _, rfl, Nat.le_refl _, by omega, hW.1, hW.2⟩
end Go.Proofs.YtlpmehmoeladjaaGreatDoor
namespace Go.Proofs.YtlpmehmoeladjaaGreatDoor
open Go.RowKit

/-- Block bx and the m blocks from B on lie as they lay; no block has gone. -/
structure Kept (bx B m : Nat) (W W' : World) : Prop where
  size : W.heap.size ≤ W'.heap.size
  box : W'.heap[bx]? = W.heap[bx]?
  rng : ∀ k, B ≤ k → k < B + m → W'.heap[k]? = W.heap[k]?

theorem Kept.refl (bx B m : Nat) (W : World) : Kept bx B m W W := ⟨Nat.le_refl _, rfl, fun _ _ _ => rfl⟩
theorem Kept.trans {bx B m : Nat} {X Y Z : World} (h : Kept bx B m X Y) (k : Kept bx B m Y Z) : Kept bx B m X Z :=
  ⟨Nat.le_trans h.size k.size, k.box.trans h.box, fun i h1 h2 => (k.rng i h1 h2).trans (h.rng i h1 h2)⟩
theorem Kept.grown {bx B m : Nat} {W W' : World} {row : Option Nat} (hg : W.grownBy W' row) (hbx : bx < W.heap.size) (hB : B + m ≤ W.heap.size)
    (hr : ∀ k, row = some k → k ≠ bx ∧ (k < B ∨ B + m ≤ k)) : Kept bx B m W W' :=
  ⟨hg.size, hg.block bx hbx (fun e => (hr bx e.symm).1 rfl), fun k h1 h2 => hg.block k (by omega) (fun e => by have := (hr k e.symm).2; omega)⟩
theorem Kept.putObj {bx B m : Nat} {W : World} {l : Nat} (o : Obj) (h1 : l ≠ bx) (h2 : l < B ∨ B + m ≤ l) : Kept bx B m W (W.putObj l o) :=
  ⟨by simp, World.putObj_heap_other (Ne.symm h1), fun k h3 h4 => World.putObj_heap_other (by omega)⟩
theorem Kept.below {bx B m : Nat} {W W' : World} {b : Nat} (h : Below b W W') (hbx : bx < b) (hB : B + m ≤ b) : Kept bx B m W W' :=
  ⟨h.size, h.block bx hbx, fun k _ h2 => h.block k (by omega)⟩
theorem Kept.less {bx B m B' m' : Nat} {W W' : World} (h : Kept bx B m W W') (h1 : B ≤ B') (h2 : B' + m' ≤ B + m) : Kept bx B' m' W W' :=
  ⟨h.size, h.box, fun k h3 h4 => h.rng k (by omega) (by omega)⟩

/-- All old blocks lie as they lay: whatever belongs to the caller abides it. -/
theorem own_below {β : Type} {B : Nat} {I : β → World → Prop} (h : OwnFrom B I) {s : β} {W W' : World} (hs : I s W) (hb : Below W.heap.size W W') : I s W' :=
  h s W W' none hs ⟨hb.os, hb.tape, hb.output, hb.size, fun k hk _ => hb.block k hk⟩ (fun r e => by cases e)

theorem round_any {n n' : Nat} {P : Program} {l : Nat} {f : FuncId} {tmps : Array Value} {assign body : Code} {w : World} {R : Ending → World → Prop}
    (h : RoundIn Fence.wide n P l f tmps assign body w R) : RoundIn Fence.wide n' P l f tmps assign body w R :=
  ⟨h.1, fun c cs _ => h.2 c cs (room_wide _)⟩
theorem yield_any {n n' : Nat} {P : Program} {l : Nat} {args : Array Value} {W : World} {R : Ending → World → Prop} (h : YieldAt Fence.wide n P l args W R) : YieldAt Fence.wide n' P l args W R := by
  obtain ⟨fn, tmps, assign, body, hy, hR⟩ := h
  exact ⟨fn, tmps, assign, body, hy, round_any hR⟩
theorem calls_any {n n' : Nat} {P : Program} {f : FuncId} {args : Array Value} {w : World} {R : Ending → World → Prop} (h : CallsIn Fence.wide n P f args w R) : CallsIn Fence.wide n' P f args w R :=
  callsIn_wide.2 (callsIn_wide.1 h)

/-- The word of an iterator that gives xs, one by one: every round keeps block bx and the m blocks that the iterator lays first. -/
def SeqE {α : Type} (P : Program) (Ext : World → Prop) (g : Nat) (lb : Array Value) (encs : α → Array Value) (bx m : Nat) (xs : List α) (w : World) : Prop :=
  ∀ (l : Nat) (J Jx : List α → World → Prop) (W : World), Below w.heap.size w W → OwnFrom W.heap.size J → OwnFrom W.heap.size Jx → (∀ pre W1, J pre W1 → Ext W1) →
    (∀ pre x W1, J pre W1 → W.heap.size + m ≤ W1.heap.size → pre ++ [x] <+: xs → YieldAt Fence.wide 0 P l (encs x) W1 fun e W' =>
      Kept bx W.heap.size m W1 W' ∧ ((e = .returned (.bool true) ∧ J (pre ++ [x]) W') ∨ (e = .returned (.bool false) ∧ Jx (pre ++ [x]) W'))) →
    J [] W →
    CallsIn Fence.wide 0 P g (#[.func (.yield l) #[] #[]] ++ lb) W fun e W' => (∃ v, e = .returned v) ∧ (J xs W' ∨ ∃ pre, pre <+: xs ∧ Jx pre W')

/-- How the body of a round may be left. -/
def postM {α : Type} (bx B m : Nat) (I : List α → World → Prop) (Ix : Code → List α → World → Prop) (xs : List α) (W : World) : Exit → Act → World → Prop
  | .normal, _, W' => Kept bx B m W W' ∧ I xs W'
  | .ret, _, W' => Kept bx B m W W' ∧ Ix .ret xs W'
  | .exit id, _, W' => Kept bx B m W W' ∧ Ix (.exit id) xs W'
  | .goto t, _, W' => Kept bx B m W W' ∧ Ix (.goto t) xs W'
  | .panic _, _, _ => False
  | .outgrown, _, _ => False

/-- The statement for .. := range g, in a plain frame. -/
theorem wp_rangeE {α : Type} {P : Program} {n kb : Nat} {g : Operand} {ps : Array Tmp} {assign body : Code} {Q : Exit → Act → World → Prop} {a : Act} {w : World}
    {gf : Nat} {lb : Array Value} (hg : a.eval g = .func (.func gf) #[] lb) (eg : ∀ args w, (callFunc gf args).run P w = .ok (.enter gf args) w)
    {encs : α → Array Value} {bx m : Nat} {xs : List α} {Ext : World → Prop} (hseq : SeqE P Ext gf lb encs bx m xs w) (hbx : bx < w.heap.size) (hps : ∀ x, (encs x).size = ps.size)
    (I : List α → World → Prop) (Ix : Code → List α → World → Prop) (hI : OwnFrom w.heap.size I) (hIx : ∀ c, OwnFrom w.heap.size (Ix c)) (h0 : I [] w) (hE : ∀ pre W, I pre W → Ext W)
    (Ax : α → Act → World → Prop) (hAx : ∀ x a', OwnFrom w.heap.size (fun (_ : Unit) W => Ax x a' W))
    (hassign : ∀ (l : Nat) (pre : List α) (x : α) (W : World) (K : Act → World → Prop), I pre W → w.heap.size + (m + 2) ≤ W.heap.size →
      (∀ a' W', Kept bx w.heap.size (m + 2) W W' → I pre W' → Ax x a' W' → K a' W') →
      assign.wpIn (Fence.wide.inRound l) kb P (Exit.then K (fun _ _ _ => False)) { tmps := (ps.zip (encs x)).foldl (fun t (p, v) => t.setIfInBounds p v) a.tmps, defers := [] } W)
    (hbody : ∀ (l : Nat) (pre : List α) (x : α) (a' : Act) (W : World), I pre W → Ax x a' W → w.heap.size + (m + 2) ≤ W.heap.size → pre ++ [x] <+: xs →
      body.wpIn (Fence.wide.inRound l) kb P (postM bx w.heap.size (m + 2) I Ix (pre ++ [x]) W) a' W)
    (hdone : ∀ (W : World), I xs W → W.heap[w.heap.size]? = some (.deferred (some [])) → Q .normal { a with defers := { target := .collected w.heap.size, args := #[] } :: a.defers } W)
    (hstop : ∀ (c : Code) (pre : List α) (W : World), pre <+: xs → Ix c pre W → W.heap[w.heap.size]? = some (.deferred (some [])) →
      c.wpIn Fence.wide n P Q { a with defers := { target := .collected w.heap.size, args := #[] } :: a.defers } W) :
    (Code.rangeFunc g ps assign body).wpIn Fence.wide n P Q a w := by
  refine wpIn_rangeFunc ?_
  intro fn hfn
  obtain ⟨rec, hrec⟩ : ∃ rec : LoopState → Option Code → Loop, rec = fun st pe => { state := st, pending := pe, fn, tmps := a.tmps, params := ps, assign, body, defers := w.heap.size } := ⟨_, rfl⟩
  obtain ⟨W1, hW1⟩ : ∃ W1, (w.alloc (.deferred (some []))).alloc (.loop (rec .ready none)) = W1 := ⟨_, rfl⟩
  have hz1 : W1.heap.size = w.heap.size + 2 := by rw [← hW1]; simp
  have hL1 : W1.heap[w.heap.size + 1]? = some (.loop (rec .ready none)) := by
    rw [← hW1]; have := World.alloc_heap_new (w.alloc (.deferred (some []))) (.loop (rec .ready none)); rwa [World.size_alloc] at this
  have hK1 : W1.heap[w.heap.size]? = some (.deferred (some [])) := by
    rw [← hW1]; exact (Below.heap_alloc _ _ _ (by simp)).trans (World.alloc_heap_new w _)
  have hI1 : I [] W1 := by rw [← hW1]; exact hI.alloc _ (hI.alloc _ h0)
  have hb1 : Below w.heap.size w W1 := by rw [← hW1]; exact ((Below.refl _ w).alloc (Nat.le_refl _) _).alloc (by simp) _
  refine ⟨w.heap.size + 1, [{ target := .collected w.heap.size, args := #[] }], W1, { target := .fn (.func gf) lb, args := #[.func (.yield (w.heap.size + 1)) #[] #[]] }, W1, gf,
    #[.func (.yield (w.heap.size + 1)) #[] #[]] ++ lb, W1, ?_, ?_, ?_, ?_, (fun h => by cases h), ?_⟩
  · rw [← hW1, hrec]; exact run_enterLoop_outer _ _ _ _ _
  · simp only [resolve, hg]
    simp [go_sem]
  · intro f' _; trivial
  · simp [invoke, go_sem, eg]
  · have fresh : ∀ {A : World} {row : Option Nat}, (∀ r, row = some r → W1.heap.size ≤ r ∧ ∃ o : Obj, A.heap[r]? = some o ∧ o.isCells = false) → (∀ r, row = some r → w.heap.size ≤ r ∧ ∃ o : Obj, A.heap[r]? = some o ∧ o.isCells = false) :=
      fun hr r e => ⟨by have := (hr r e).1; omega, (hr r e).2⟩
    have stays : ∀ {A B : World} {row : Option Nat} {k : Nat} {o : Obj}, A.grownBy B row → (∀ r, row = some r → W1.heap.size ≤ r ∧ ∃ o : Obj, A.heap[r]? = some o ∧ o.isCells = false) → A.heap[k]? = some o → k < w.heap.size + 2 → B.heap[k]? = some o :=
      fun hg' hr hk hlt => (hg'.block _ (Array.getElem?_eq_some_iff.1 hk).1 (fun e => by have := (hr _ e.symm).1; omega)).trans hk
    refine calls_any ((hseq (w.heap.size + 1)
      (fun pre W => I pre W ∧ W.heap[w.heap.size + 1]? = some (.loop (rec .ready none)) ∧ W.heap[w.heap.size]? = some (.deferred (some [])))
      (fun pre W => ∃ c, Ix c pre W ∧ W.heap[w.heap.size + 1]? = some (.loop (rec .done (some c))) ∧ W.heap[w.heap.size]? = some (.deferred (some [])))
      W1 hb1
      (fun s A B row hs hg' hr => ⟨hI s A B row hs.1 hg' (fresh hr), stays hg' hr hs.2.1 (by omega), stays hg' hr hs.2.2 (by omega)⟩)
      (fun s A B row hs hg' hr => by
        obtain ⟨c, hc, hl, hk⟩ := hs
        exact ⟨c, hIx c s A B row hc hg' (fresh hr), stays hg' hr hl (by omega), stays hg' hr hk (by omega)⟩)
      (fun s A hs => hE s A hs.1) ?_ ⟨hI1, hL1, hK1⟩).mono ?_)
    · rintro pre x W ⟨hi, hl, hk⟩ hsz hlen
      have hy := run_yield (P := P) (args := encs x) hl (by rw [hrec]; exact hps x)
      rw [hrec] at hy
      refine yield_any (n := kb) ⟨fn, _, assign, body, hy, roundIn_of_wpIn hfn (hassign _ pre x W _ hi (by omega) ?_)⟩
      clear hy
      intro a' Wa hka hia hax
      have hla := (hka.rng (w.heap.size + 1) (by omega) (by omega)).trans hl
      have hda := (hka.rng w.heap.size (by omega) (by omega)).trans hk
      have hza : w.heap.size + (m + 2) ≤ Wa.heap.size := by have := hka.size; omega
      refine ⟨_, run_beginRound hla (by rw [hrec]), ?_⟩
      have hl2 : (Wa.putObj (w.heap.size + 1) (.loop { rec .ready none with state := .busy })).heap[w.heap.size + 1]? = some (.loop { rec .ready none with state := .busy }) := World.putObj_heap_same (by omega)
      have hk2 : (Wa.putObj (w.heap.size + 1) (.loop { rec .ready none with state := .busy })).heap[w.heap.size]? = some (.deferred (some [])) := (World.putObj_heap_other (by omega)).trans hda
      have hp2 : Kept bx W1.heap.size m Wa (Wa.putObj (w.heap.size + 1) (.loop { rec .ready none with state := .busy })) := Kept.putObj _ (by omega) (by omega)
      refine wpIn_mono (hbody _ pre x a' _ (hI.putObj _ hia (by omega) hla rfl) ((hAx x a').putObj (s := ()) _ hax (by omega) hla rfl) (by simpa using hza) hlen) ?_
      have fin : ∀ (jump : Option Code) (W3 : World), Kept bx w.heap.size (m + 2) (Wa.putObj (w.heap.size + 1) (.loop { rec .ready none with state := .busy })) W3 →
          (Instr.endRound (w.heap.size + 1) jump).run P W3 = .ok (.bool jump.isNone) (W3.putObj (w.heap.size + 1) (.loop (rec (if jump.isNone then .ready else .done) jump))) ∧
          W3.heap[w.heap.size + 1]? = some (.loop { rec .ready none with state := .busy }) ∧
          (W3.putObj (w.heap.size + 1) (.loop (rec (if jump.isNone then .ready else .done) jump))).heap[w.heap.size + 1]? = some (.loop (rec (if jump.isNone then .ready else .done) jump)) ∧
          (W3.putObj (w.heap.size + 1) (.loop (rec (if jump.isNone then .ready else .done) jump))).heap[w.heap.size]? = some (.deferred (some [])) ∧
          Kept bx W1.heap.size m W (W3.putObj (w.heap.size + 1) (.loop (rec (if jump.isNone then .ready else .done) jump))) := fun jump W3 hk3 => by
        have hl3 := (hk3.rng (w.heap.size + 1) (by omega) (by omega)).trans hl2
        have hrun := run_endRound (P := P) jump hl3
        rw [hrec] at hrun
        refine ⟨by rw [hrec]; exact hrun, hl3, World.putObj_heap_same (Array.getElem?_eq_some_iff.1 hl3).1, (World.putObj_heap_other (by omega)).trans ((hk3.rng w.heap.size (by omega) (by omega)).trans hk2), ?_⟩
        exact (((hka.less (by omega) (by omega)).trans hp2).trans (hk3.less (by omega) (by omega))).trans (Kept.putObj _ (by omega) (by omega))
      rintro e a3 W3 hp
      cases e with
      | normal =>
        obtain ⟨hk3, hi3⟩ := hp
        obtain ⟨hr, hl3, hl4, hk4, hq⟩ := fin none W3 hk3
        exact ⟨_, _, hr, hq, .inl ⟨rfl, hI.putObj _ hi3 (by omega) hl3 rfl, hl4, hk4⟩⟩
      | ret =>
        obtain ⟨hk3, hi3⟩ := hp
        obtain ⟨hr, hl3, hl4, hk4, hq⟩ := fin (some .ret) W3 hk3
        exact ⟨_, _, hr, hq, .inr ⟨rfl, .ret, (hIx _).putObj _ hi3 (by omega) hl3 rfl, hl4, hk4⟩⟩
      | exit id =>
        obtain ⟨hk3, hi3⟩ := hp
        obtain ⟨hr, hl3, hl4, hk4, hq⟩ := fin (some (.exit id)) W3 hk3
        exact ⟨_, _, hr, hq, .inr ⟨rfl, .exit id, (hIx _).putObj _ hi3 (by omega) hl3 rfl, hl4, hk4⟩⟩
      | goto t =>
        obtain ⟨hk3, hi3⟩ := hp
        obtain ⟨hr, hl3, hl4, hk4, hq⟩ := fin (some (.goto t)) W3 hk3
        exact ⟨_, _, hr, hq, .inr ⟨rfl, .goto t, (hIx _).putObj _ hi3 (by omega) hl3 rfl, hl4, hk4⟩⟩
      | panic ch => exact hp.elim
      | outgrown => exact hp.elim
    · rintro e W2 ⟨⟨v, rfl⟩, (⟨hi, hl, hk⟩ | ⟨pre, hpre, c, hi, hl, hk⟩)⟩
      · exact ⟨none, _, by have := run_endLoop (P := P) hl (by rw [hrec]; simp); rw [hrec] at this; exact this, hdone _ (hI.putObj _ hi (by omega) hl rfl) ((World.putObj_heap_other (by omega)).trans hk)⟩
      · exact ⟨some c, _, by have := run_endLoop (P := P) hl (by rw [hrec]; simp); rw [hrec] at this; exact this, hstop c pre _ hpre ((hIx c).putObj _ hi (by omega) hl rfl) ((World.putObj_heap_other (by omega)).trans hk)⟩

end Go.Proofs.YtlpmehmoeladjaaGreatDoor
