/- wire.Open of bytes that are refused; a byte that is turned. -/
import Derived.Test.YtndogopllcpiiaaWry
namespace Go.Proofs.Ytndogopllcpiiaa
open Go.RowKit Go.Shelf

theorem res2o {tmps : Array Value} {W : World} {a : Nat} {x : Value} {y : Value} (h4 : tmps[4]?.getD undef = .pointer (some ⟨a, 0, none⟩)) (h5 : tmps[5]?.getD undef = y) (hx : W.heap[a]? = some (.cells #[x] 27 (0, 0))) : (results Try.f9 tmps).run Try.prog W = .ok (.tuple #[.agg #[x], y]) W := by
  have c0 := cell_at hx 0
  simp at c0
  simp [results, Try.results9, go_sem, h4, h5, c0]
set_option maxHeartbeats 1000000 in
theorem open_err (ad : Option Addr) (cap : Nat) (bs : List Nat) (n : Int) (w : World) (h : RdB w ad bs) (hb : Byt bs) (hc : bs.length ≤ cap) (er : Int) (hd : dec n bs = .error er) : Calls Try.prog 9 #[.slice ad bs.length cap, .int .i64 n] w fun e w' => e = .returned (.tuple #[.agg #[.nilIface], .int .i64 er]) ∧ Below w.heap.size w w' := by
  have hb0 := al1' w (.cells #[.nilIface] 27)
  have hde := decode_any ad cap bs n (w.alloc (.cells #[.nilIface] 27)) (h.carry hb0) hb hc
  unfold DcO at hde
  rw [hd] at hde
  have her : (er != 0) = true := by simpa using dec_err hd
  have hB : (w.alloc (.cells #[.nilIface] 27)).heap[w.heap.size]? = some (.cells #[.nilIface] 27 (0, 0)) := new_at rfl
  go_enter Try.func9, Try.ntmps9
  go_wp2_with (go_at_call 23; (with_reducible refine hde.mono ?_); rintro e u1 ⟨rfl, hb1⟩; have hB1 := (hb1.block _ (lt_at hB)).trans hB; have c0 := cell_at hB1 0; simp at c0; have z0 := thaw_at hB1 0)
  exact bodyPost_ret (res2o rfl rfl ((set_get 0 _ hB1).trans (by simp))) rfl ⟨rfl, (bel2 hb0 hb1).setCell (p := ⟨w.heap.size, 0, none⟩) (Nat.le_refl _) _⟩
theorem BAt.set {W : World} {g : Nat} {l : List Nat} (h : BAt W g 0 l) {k y x : Nat} (hx : l[k]? = some x) : BAt (W.setCell ⟨g, k, none⟩ (.int .u8 (y : Int))) g 0 (l.set k y) := by
  intro j z hz
  have hk := (List.getElem?_eq_some_iff.1 hx).1
  rw [Nat.zero_add]
  by_cases e : k = j
  · subst e
    rw [List.getElem?_set_self hk] at hz
    cases hz
    have c := h k x hx
    rw [Nat.zero_add] at c
    exact World.cell?_setCell_same _ _ _ c
  · rw [List.getElem?_set_ne e] at hz
    have c := h j z hz
    rw [Nat.zero_add] at c
    rw [World.cell?_setCell_other _ ⟨g, k, none⟩ ⟨g, j, none⟩ _ (fun q => e (by cases q; rfl))]
    exact c
theorem xor_ne (x z : Nat) (h : z ≠ 0) : x ^^^ z ≠ x := by
  intro e
  apply h
  have e2 : x ^^^ (x ^^^ z) = z := by rw [← Nat.xor_assoc, Nat.xor_self, Nat.zero_xor]
  rw [← e2, e, Nat.xor_self]
end Go.Proofs.Ytndogopllcpiiaa
