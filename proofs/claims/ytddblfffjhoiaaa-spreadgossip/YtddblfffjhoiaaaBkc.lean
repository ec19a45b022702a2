/- tagbook's Take, At, Same, New: what they answer, at every book. -/
import Derived.Test.YtddblfffjhoiaaaBkb
import Derived.Laws.MakeOwn
namespace Go.Proofs.Ytddblfffjhoiaaa
open Go.RowKit Go.Shelf

theorem grown_below0 {w W : World} (h : Below w.heap.size w W) (g : Nat) : w.grownBy W (some g) := ⟨h.os, h.tape, h.output, h.size, fun q hq _ => h.block q hq⟩
theorem grown_then {w W V : World} {g : Nat} (h : Below w.heap.size w W) (k : W.grownBy V (some g)) : w.grownBy V (some g) := (grown_below0 h g).trans k
theorem grown_and {w W V : World} {g : Nat} (h : w.grownBy W (some g)) (k : Below W.heap.size W V) : w.grownBy V (some g) := h.trans (grown_below0 k g)
def tkb (l : List N3) (x : N3) : Bool := vlx l.length x && bat l x
set_option maxHeartbeats 4000000 in
set_option maxRecDepth 100000 in
theorem take_any {w : World} {p g : Nat} {l : List N3} (h : Bk w p g l) (o t k : Int) : Calls Try.prog 16 #[.pointer (some ⟨p, 0, none⟩), nt o t k] w fun e w' => e = .returned (.tuple #[.bool (tkb l (o, t, k)), .int .i64 (if vlx l.length (o, t, k) = true then 0 else 50)]) ∧ Bk w' p g (tke l (o, t, k)) ∧ w.grownBy w' (some g) := by
  have hmx : Try.prog.follows .mixedOrders = true := by kernel_rfl
  obtain ⟨B, hB⟩ : ∃ B, vlx l.length (o, t, k) = B := ⟨_, rfl⟩
  have hva := valid_any (l.length : Int) o t k
  have hvv : vl (l.length : Int) o t k = B := hB
  rw [hvv] at hva
  have hj0 : NB (w.alloc (.cells #[.int .i64 o, .int .i64 t, .int .i64 k] 32)) w.heap.size o t k ∧ Bk (w.alloc (.cells #[.int .i64 o, .int .i64 t, .int .i64 k] 32)) p g l ∧ Below w.heap.size w (w.alloc (.cells #[.int .i64 o, .int .i64 t, .int .i64 k] 32)) := ⟨NB.new _ _ _ _, h.alloc _, al1 _ _⟩
  unfold tkb tke
  rw [hB]
  obtain ⟨R, hR⟩ : ∃ R, (B && bat l (o, t, k)) = R := ⟨_, rfl⟩
  obtain ⟨M, hM⟩ : ∃ M, (if B = true then rse l (o, t, k) else l) = M := ⟨_, rfl⟩
  obtain ⟨E, hE⟩ : ∃ E : Int, (if B = true then 0 else 50) = E := ⟨_, rfl⟩
  rw [hR, hM, hE]
  have hin : B = true → ∃ i : Nat, o = (i : Int) ∧ i < l.length := fun e => by
    obtain ⟨_, _, h3, h4, _⟩ := vlx_iff.1 (hB.trans e)
    exact ⟨o.toNat, by simpa using (Int.toNat_of_nonneg h3).symm, h4⟩
  clear hvv
  go_enter Try.func16, Try.ntmps16
  unfold nt
  go_wp2
  rename_i Q0 K0 hK
  refine wp_region_any hmx ?_
  refine wpAny_pure (fun i__ => ([(.pointer (some ⟨p, 0, none⟩)), (.int .i64 (l.length : Int)), (nt o t k), (.bool B), (.bool (!B))] : List Value).getD i__ undef) (fun V => NB V w.heap.size o t k ∧ Bk V p g l ∧ Below w.heap.size w V) (by kernel_rfl) ⟨hj0.1.carry (Below.refl _ _).drew, hj0.2.1.carry (Below.refl _ _).drew, hj0.2.2.drew⟩ ?_ ?_
  · refine (stepsFrom_cons ?_ (stepsFrom_cons ?_ (stepsFrom_cons ?_ (stepsFrom_cons ?_ (stepsFrom_cons ?_ trivial)))))
    · exact step_move rfl trivial _ rfl (by kernel_rfl)
    · exact step_call rfl trivial 23 _ _ [(.pointer (some ⟨p, 0, none⟩))] rfl (by kernel_rfl) (enters_of Try.func23 (by kernel_rfl) rfl) (fun w hw => (bsize_any hw.2.1).mono (by rintro e w' ⟨rfl, hb⟩; exact ⟨rfl, hw.1.carry hb, hw.2.1.carry hb, bel2 hw.2.2 hb⟩))
    · exact step_load rfl trivial _ _ _ rfl rfl (fun w hw => load_nt hw.1)
    · exact step_call rfl trivial 37 _ _ [(.int .i64 (l.length : Int)), (nt o t k)] rfl (by kernel_rfl) (enters_of Try.func37 (by kernel_rfl) rfl) (fun w hw => (hva w).mono (by rintro e w' ⟨rfl, hb⟩; exact ⟨rfl, hw.1.carry hb, hw.2.1.carry hb, bel2 hw.2.2 hb⟩))
    · exact step_unOp rfl trivial _ _ _ _ rfl rfl (fun w hw => un_not B w)
  intro W hW
  first | refine hK _ _ ?_ | refine (‹∀ (a : Act) (w : World), Code.wp Try.prog _ _ a w → _›) _ _ ?_
  simp only [finL, List.getD_cons_zero, List.getD_cons_succ, Nat.zero_add, Nat.reduceAdd, List.setIfInBounds_toArray, List.set_cons_zero, List.set_cons_succ]
  obtain ⟨hn, hk, hb⟩ := hW
  clear hj0 hK hB hva
  cases B with
  | false =>
    clear hin
    obtain rfl : false = R := hR
    obtain rfl : l = M := hM
    obtain rfl : (50 : Int) = E := hE
    go_wp2
    go_ret2
    exact ⟨rfl, hk, grown_below0 hb g⟩
  | true =>
    obtain ⟨i, rfl, hi⟩ := hin rfl
    clear hin
    have hr := raise_at hk i t k hi
    unfold nt at hr
    have c0 := hn.c0
    have c1 := hn.c1
    have c2 := hn.c2
    obtain rfl : (0 : Int) = E := hE
    rw [show bat l ((i : Int), t, k) = R from hR, show rse l ((i : Int), t, k) = M from hM] at hr
    clear hR hM
    go_wp2_with (go_at_call 38; (with_reducible refine hr.mono ?_); rintro e u1 ⟨rfl, hk1, hg1⟩)
    go_ret2
    exact ⟨rfl, hk1, grown_then hb hg1⟩
/-- What At answers. -/
def atV (l : List N3) (id : Int) : Value := if 0 ≤ id ∧ id < (l.length : Int) then (match l[id.toNat]? with | some x => .tuple #[nt x.1 x.2.1 x.2.2, .int .i64 0] | none => undef) else .tuple #[nt 0 0 0, .int .i64 30]
theorem atV_in {l : List N3} {i : Nat} {x : N3} (h : l[i]? = some x) : atV l (i : Int) = .tuple #[nt x.1 x.2.1 x.2.2, .int .i64 0] := by
  have := (List.getElem?_eq_some_iff.1 h).1
  unfold atV
  rw [if_pos (by omega), Int.toNat_natCast, h]
set_option maxHeartbeats 4000000 in
set_option maxRecDepth 100000 in
theorem at_any {w : World} {p g : Nat} {l : List N3} (h : Bk w p g l) (id : Int) : Calls Try.prog 12 #[.pointer (some ⟨p, 0, none⟩), .int .i64 id] w fun e w' => e = .returned (atV l id) ∧ Below w.heap.size w w' := by
  have hk1 : Bk (w.alloc (.cells #[.int .i64 0, .int .i64 0, .int .i64 0] 32)) p g l := h.alloc _
  have hn1 : NB (w.alloc (.cells #[.int .i64 0, .int .i64 0, .int .i64 0] 32)) w.heap.size 0 0 0 := NB.new _ _ _ _
  have hb1 : Below w.heap.size w (w.alloc (.cells #[.int .i64 0, .int .i64 0, .int .i64 0] 32)) := al1 _ _
  have hsz := bsize_any hk1
  by_cases h0 : id < 0
  · have c0 := hn1.c0
    have c1 := hn1.c1
    have c2 := hn1.c2
    have z0 := hn1.thaw 0
    have z1 := hn1.thaw 1
    have z2 := hn1.thaw 2
    have hV : atV l id = .tuple #[nt 0 0 0, .int .i64 30] := by unfold atV; rw [if_neg (by omega)]
    rw [hV]
    go_enter Try.func12, Try.ntmps12
    go_wp2
    exact retNt rfl rfl rfl rfl hn1 ⟨rfl, hb1⟩
  · by_cases h1 : id < (l.length : Int)
    · obtain ⟨i, rfl⟩ : ∃ i : Nat, id = (i : Int) := ⟨id.toNat, by omega⟩
      have hi : i < l.length := by omega
      obtain ⟨⟨o', t', k'⟩, hx⟩ : ∃ x, l[i]? = some x := ⟨_, List.getElem?_eq_getElem hi⟩
      rw [atV_in hx]
      have hge : ¬ (l.length : Int) ≤ (i : Int) := by omega
      go_enter Try.func12, Try.ntmps12
      go_wp2_with (go_at_call 23; (with_reducible refine hsz.mono ?_); rintro e u1 ⟨rfl, hb2⟩; have hk2 := hk1.carry hb2; have hn2 := hn1.carry hb2; have d := hk2.cell; obtain ⟨e0, e1, e2⟩ := hk2.nts i _ hx; rw [Nat.zero_add] at e0 e1 e2; have c0 := hn2.c0; have c1 := hn2.c1; have c2 := hn2.c2; have z0 := hn2.thaw 0; have z1 := hn2.thaw 1; have z2 := hn2.thaw 2)
      exact retNt rfl rfl rfl rfl (NB.set hn2 _ _ _) ⟨rfl, below3 (bel2 hb1 hb2) (Nat.le_refl _) _ _ _⟩
    · have hV : atV l id = .tuple #[nt 0 0 0, .int .i64 30] := by unfold atV; rw [if_neg (by omega)]
      rw [hV]
      have hge : (l.length : Int) ≤ id := by omega
      go_enter Try.func12, Try.ntmps12
      go_wp2_with (go_at_call 23; (with_reducible refine hsz.mono ?_); rintro e u1 ⟨rfl, hb2⟩; have hn2 := hn1.carry hb2; have c0 := hn2.c0; have c1 := hn2.c1; have c2 := hn2.c2; have z0 := hn2.thaw 0; have z1 := hn2.thaw 1; have z2 := hn2.thaw 2)
      exact retNt rfl rfl rfl rfl (NB.set hn2 _ _ _) ⟨rfl, below3 (bel2 hb1 hb2) (Nat.le_refl _) _ _ _⟩
end Go.Proofs.Ytddblfffjhoiaaa
