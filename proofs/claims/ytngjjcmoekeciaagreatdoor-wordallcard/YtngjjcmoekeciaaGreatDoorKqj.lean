/- While a copy is made and kept: where the new rows lie. -/
import Derived.Test.YtngjjcmoekeciaaGreatDoorKqb
namespace Go.Proofs.YtngjjcmoekeciaaGreatDoor.Kel
open Go.RowKit Go.Shelf Go.Lib
set_option linter.unusedVariables false

section
variable {T TT TTT TB : TypeId} {s by_ i0 base bb k n : Nat} {ad : Option Addr} {cs : List Value} {x y : List Value} {u v u0 : Value} {C : Array Value} {Z : World} {g : Value × Nat × Value} {d6 d7 d8 d11 : Bool} {W : World}
theorem JZ.app2 (hI : KI T TT TTT TB s by_) (h : JZ T TT TB s i0 base bb k n ad cs x y u v u0 C Z g true true false false W) (hk : k < 400) (ty : TypeId) : ∃ z V, (Builtin.append_ #[TTT, TTT] ty #[v, .slice (some ⟨g.2.1, 0, none⟩) 1 1]).run Tryz.prog W = .ok z V ∧ JZ T TT TB s i0 base bb k n ad cs x y u v u0 C Z (g.1, g.2.1, z) true true true false V ∧ (z.ownBlock = v.ownBlock ∨ z.ownBlock = some W.heap.size) := by
  obtain ⟨ic, hic, hz0, hz1, hz2⟩ := hI.iS
  obtain ⟨⟨a', c', e1⟩, hcr⟩ := h.cp rfl
  have h6 := h.r6
  obtain ⟨hb1, hb2⟩ := h.bl rfl rfl
  have h7' : W.ownsRow base TT 1 v k y := h.r7
  have hnews : ∀ (j : Nat) (q : Value), [g.1][j]? = some q → W.cell? ((⟨g.2.1, 0, none⟩ : Addr).add j) = some q := by
    intro j q hj
    rw [add_pl, Nat.zero_add, cell_at hb1 j, ← hj]
    simp
  obtain ⟨z, V, hr, h2, h3, _, h5⟩ := run_append_own_at (P := Tryz.prog) W base TTT ty TT ic _ 1 24 hI.uS hic hz0 hz1 hz2 rfl (by decide) v k y h7' ⟨g.2.1, 0, none⟩ 1 1 [g.1] rfl hnews (by rw [e1]; simp [Value.oneCell']) (by unfold maxLen; omega) (by omega) h.bz
  have hapv : ∀ q, u.ownBlock = some q → v.ownBlock ≠ some q := h.ap
  refine ⟨z, V, hr, ⟨(h3.block _ (lt_at h.kb) (fun e => bb_row h.kb h7' hI.nS e.symm)).trans h.kb, row_off h6 h3 (fun q hq hq2 => hapv q hq2 hq), h2, fun q hq => ?_, fun _ => ⟨⟨a', c', e1⟩, row_ty hI.nT hcr h7' h3⟩, (fun _ e => by cases e), fun _ => ?_, (fun e => by cases e), h.kp.grown h3 (fun q e => .inr (.inr (.inl e))), Nat.le_trans h.bz h3.size⟩, h5⟩
  · show z.ownBlock ≠ some q
    rcases h5 with h5 | h5
    · rw [h5]; exact hapv q hq
    · rw [h5]
      have := (row_lt h6 q hq).2
      simp only [ne_eq, Option.some.injEq]
      omega
  · obtain ⟨a2, c2, e2, _⟩ := rowForm h2
    exact ⟨a2, c2, e2⟩
end
structure JZ2 (T TT TB : TypeId) (s i0 base bb k n : Nat) (ad : Option Addr) (cs : List Value) (x y : List Value) (u v u0 : Value) (C : Array Value) (Z : World) (g : Value × Nat × Value) (d6 d7 d8 d11 : Bool) (W : World) : Prop extends JZ T TT TB s i0 base bb k n ad cs x y u v u0 C Z g d6 d7 d8 d11 W where
  fr : d8 = true → ∀ q, g.2.2.ownBlock = some q → v.ownBlock = some q ∨ Z.heap.size ≤ q
section
variable {T TT TTT TB : TypeId} {s by_ i0 base bb k n : Nat} {ad : Option Addr} {cs : List Value} {x y : List Value} {u v u0 : Value} {C : Array Value} {Z : World} {g : Value × Nat × Value} {d6 d7 d8 d11 : Bool} {W : World}
theorem JZ2.copy (h : JZ2 T TT TB s i0 base bb k n ad cs x y u v u0 C Z g d6 false false d11 W) {V : World} {z : Value} (hb : Below W.heap.size W V) (hx : ∃ a' c', z = .slice a' n c') (ho : V.ownsRow W.heap.size T s z n cs) : JZ2 T TT TB s i0 base bb k n ad cs x y u v u0 C Z (z, g.2) true false false d11 V := ⟨h.toJZ.copy hb hx ho, fun e => by cases e⟩
theorem JZ2.build (h : JZ2 T TT TB s i0 base bb k n ad cs x y u v u0 C Z g true d7 d8 d11 W) : JZ2 T TT TB s i0 base bb k n ad cs x y u v u0 C Z (g.1, W.heap.size, g.2.2) true true d8 d11 (W.alloc (.cells #[g.1] TT)) := ⟨h.toJZ.build, h.fr⟩
theorem JZ2.app (h : JZ2 T TT TB s i0 base bb k n ad cs x y u v u0 C Z g true true false false W) (hI : KI T TT TTT TB s by_) (hk : k < 400) (ty : TypeId) : ∃ z V, (Builtin.append_ #[TTT, TTT] ty #[v, .slice (some ⟨g.2.1, 0, none⟩) 1 1]).run Tryz.prog W = .ok z V ∧ JZ2 T TT TB s i0 base bb k n ad cs x y u v u0 C Z (g.1, g.2.1, z) true true true false V := by
  obtain ⟨z, V, hr, hJ, h5⟩ := h.toJZ.app2 hI hk ty
  refine ⟨z, V, hr, hJ, fun _ q hq => ?_⟩
  rcases h5 with e | e
  · exact .inl (e.symm.trans hq)
  · have h1 := h.kp.size
    have h2 : some W.heap.size = some q := e.symm.trans hq
    cases h2
    exact .inr h1
theorem JZ2.store (h : JZ2 T TT TB s i0 base bb k n ad cs x y u v u0 C Z g true true true d11 W) (hI : KI T TT TTT TB s by_) (hst : ∀ a n c, (Instr.storeAt TTT (.pointer (some ⟨bb, i0 + 1, none⟩)) (.slice a n c)).run Tryz.prog W = .ok () (W.setCell ⟨bb, i0 + 1, none⟩ (.slice a n c))) : ∃ V, (Instr.storeAt TTT (.pointer (some ⟨bb, i0 + 1, none⟩)) g.2.2).run Tryz.prog W = .ok () V ∧ JZ2 T TT TB s i0 base bb k n ad cs x y u v u0 C Z g true true true true V := by
  obtain ⟨V, hr, hJ⟩ := h.toJZ.store hI hst
  exact ⟨V, hr, hJ, h.fr⟩
end
/-- What is there behind it, and where it lies. -/
def Nb2 (u v z : Value) (x y : List Value) (w : World) (u' v' : Value) (x' y' : List Value) : Prop := (∀ (i : Nat) (z' : Value), x'[i]? = some z' → z' = z ∨ ∃ j : Nat, x[j]? = some z') ∧ (∀ q, u'.ownBlock = some q → u.ownBlock = some q ∨ w.heap.size ≤ q) ∧ (∀ q, v'.ownBlock = some q → v.ownBlock = some q ∨ w.heap.size ≤ q) ∧ (∀ (i : Nat) (z' : Value), y'[i]? = some z' → (∃ j : Nat, y[j]? = some z') ∨ ∀ q, z'.ownBlock = some q → w.heap.size ≤ q)
def Kepq2 {α : Type} (c : α → List Value) (s : Nat) (T TT TB : TypeId) (i0 base bb : Nat) (C : Array Value) (u v z : Value) (x y : List Value) (w V : World) : Prop := ∃ u' v' x' y' L', Bb TB V bb (put2 C i0 u' v') ∧ Kkq c s T TT base V u' v' x' y' L' ∧ Fk bb u v w V ∧ Nb2 u v z x y w u' v' x' y'
def Kept2 {α : Type} (c : α → List Value) (s : Nat) (T TT TB : TypeId) (i0 base bb : Nat) (C : Array Value) (u v z : Value) (x y : List Value) (L : List (List α)) (l : List α) (w V : World) : Prop := ∃ u' v' x' y' L', Bb TB V bb (put2 C i0 u' v') ∧ Kk c s T TT base V u' v' x' y' L' ∧ Fk bb u v w V ∧ Nb2 u v z x y w u' v' x' y' ∧ (L' = L ∨ L' = L ++ [l])
end Go.Proofs.YtngjjcmoekeciaaGreatDoor.Kel
