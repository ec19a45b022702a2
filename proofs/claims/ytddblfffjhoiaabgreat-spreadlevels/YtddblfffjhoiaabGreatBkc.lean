/- tagbook's Take, At, Same, New: what they answer, at every book. -/
import Derived.Test.YtddblfffjhoiaabGreatBkb
import Derived.Laws.MakeOwn
namespace Go.Proofs.YtddblfffjhoiaabGreat
open Go.RowKit Go.Shelf

theorem grown_below0 {w W : World} (h : Below w.heap.size w W) (g : Nat) : w.grownBy W (some g) := ⟨h.os, h.tape, h.output, h.size, fun q hq _ => h.block q hq⟩
theorem grown_then {w W V : World} {g : Nat} (h : Below w.heap.size w W) (k : W.grownBy V (some g)) : w.grownBy V (some g) := (grown_below0 h g).trans k
theorem grown_and {w W V : World} {g : Nat} (h : w.grownBy W (some g)) (k : Below W.heap.size W V) : w.grownBy V (some g) := h.trans (grown_below0 k g)
def tkb (l : List N3) (x : N3) : Bool := vlx l.length x && bat l x
/-- What At answers. -/
def atV (l : List N3) (id : Int) : Value := if 0 ≤ id ∧ id < (l.length : Int) then (match l[id.toNat]? with | some x => .tuple #[nt x.1 x.2.1 x.2.2, .int .i64 0] | none => undef) else .tuple #[nt 0 0 0, .int .i64 30]
theorem atV_in {l : List N3} {i : Nat} {x : N3} (h : l[i]? = some x) : atV l (i : Int) = .tuple #[nt x.1 x.2.1 x.2.2, .int .i64 0] := by
  have := (List.getElem?_eq_some_iff.1 h).1
  unfold atV
  rw [if_pos (by omega), Int.toNat_natCast, h]
set_option maxHeartbeats 4000000 in
set_option maxRecDepth 100000 in
theorem at_any {w : World} {p g : Nat} {l : List N3} (h : Bk w p g l) (id : Int) : Calls Tryz.prog 90 #[.pointer (some ⟨p, 0, none⟩), .int .i64 id] w fun e w' => e = .returned (atV l id) ∧ Below w.heap.size w w' := by
  have hk1 : Bk (w.alloc (.cells #[.int .i64 0, .int .i64 0, .int .i64 0] 61)) p g l := h.alloc _
  have hn1 : NB (w.alloc (.cells #[.int .i64 0, .int .i64 0, .int .i64 0] 61)) w.heap.size 0 0 0 := NB.new _ _ _ _
  have hb1 : Below w.heap.size w (w.alloc (.cells #[.int .i64 0, .int .i64 0, .int .i64 0] 61)) := al1 _ _
  have hsz := bsize_any hk1
  by_cases h0 : id < 0
  · have c0 := hn1.c0
    have c1 := hn1.c1
    have c2 := hn1.c2
    have z0 := hn1.thaw 0
    have z1 := hn1.thaw 1
    have z2 := hn1.thaw 2
    have hV : atV l id = .tuple #[nt 0 0 0, .int .i64 30] := by unfold atV; rw [if_neg (by omega)]
    rw [hV]
    go_enter Tryz.func90, Tryz.ntmps90
    go_wp2
    exact retNt rfl rfl rfl rfl hn1 ⟨rfl, hb1⟩
  · by_cases h1 : id < (l.length : Int)
    · obtain ⟨i, rfl⟩ : ∃ i : Nat, id = (i : Int) := ⟨id.toNat, by omega⟩
      have hi : i < l.length := by omega
      obtain ⟨⟨o', t', k'⟩, hx⟩ : ∃ x, l[i]? = some x := ⟨_, List.getElem?_eq_getElem hi⟩
      rw [atV_in hx]
      have hge : ¬ (l.length : Int) ≤ (i : Int) := by omega
      go_enter Tryz.func90, Tryz.ntmps90
      go_wp2_with (go_at_call 18; (with_reducible refine hsz.mono ?_); rintro e u1 ⟨rfl, hb2⟩; have hk2 := hk1.carry hb2; have hn2 := hn1.carry hb2; have d := hk2.cell; obtain ⟨e0, e1, e2⟩ := hk2.nts i _ hx; rw [Nat.zero_add] at e0 e1 e2; have c0 := hn2.c0; have c1 := hn2.c1; have c2 := hn2.c2; have z0 := hn2.thaw 0; have z1 := hn2.thaw 1; have z2 := hn2.thaw 2)
      exact retNt rfl rfl rfl rfl (NB.set hn2 _ _ _) ⟨rfl, below3 (bel2 hb1 hb2) (Nat.le_refl _) _ _ _⟩
    · have hV : atV l id = .tuple #[nt 0 0 0, .int .i64 30] := by unfold atV; rw [if_neg (by omega)]
      rw [hV]
      have hge : (l.length : Int) ≤ id := by omega
      go_enter Tryz.func90, Tryz.ntmps90
      go_wp2_with (go_at_call 18; (with_reducible refine hsz.mono ?_); rintro e u1 ⟨rfl, hb2⟩; have hn2 := hn1.carry hb2; have c0 := hn2.c0; have c1 := hn2.c1; have c2 := hn2.c2; have z0 := hn2.thaw 0; have z1 := hn2.thaw 1; have z2 := hn2.thaw 2)
      exact retNt rfl rfl rfl rfl (NB.set hn2 _ _ _) ⟨rfl, below3 (bel2 hb1 hb2) (Nat.le_refl _) _ _ _⟩
end Go.Proofs.YtddblfffjhoiaabGreat
