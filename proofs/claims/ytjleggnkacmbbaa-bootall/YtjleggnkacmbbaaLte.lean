/- slot's Encode, Decode: what they answer. -/
import Derived.Test.YtjleggnkacmbbaaLtd
namespace Go.Proofs.Ytjleggnkacmbbaa
open Go.RowKit Go.Shelf Go.Lib

/-- A slot's bytes in a block of their own. -/
def ImB (W : World) (g : Nat) (l : List Nat) : Prop := W.heap[g]? = some (.cells (cB l).toArray 100 (0, 0))
theorem ImB.carry {W W' : World} {g : Nat} {l : List Nat} (h : ImB W g l) (hb : Below W.heap.size W W') : ImB W' g l := (hb.block _ (lt_at h)).trans h
theorem ImB.at {W : World} {g : Nat} {l : List Nat} (h : ImB W g l) : BAt W g 0 l := fun k x hk => by
  rw [Nat.zero_add, cell_at h, List.getElem?_toArray]
  exact cB_get hk
theorem ImB.rd {W : World} {g : Nat} {l : List Nat} (h : ImB W g l) : RdB W (some ⟨g, 0, none⟩) l := fun _ => ⟨g, 0, rfl, lt_at h, h.at⟩
def r0A : Array Value := #[.int .i64 0, .int .i64 0, .int .i64 0]
def rA (r : Rec) : Array Value := #[.int .i64 r.li, .int .i64 r.ro, .int .i64 r.ta]
def eA (r : Rec) (s : Int) : Array Value := #[.int .i64 r.li, .int .i64 r.ro, .int .i64 r.ta, .int .i64 s]
def e0A : Array Value := #[.int .i64 0, .int .i64 0, .int .i64 0, .int .i64 0]
theorem store_rec {W : World} {B : Nat} {C : Array Value} {a b c : Int} (h : W.heap[B]? = some (.cells C 36 (0, 0))) (hC : C.size = 3) : (Instr.storeAt 36 (.pointer (some ⟨B, 0, none⟩)) (.agg #[.int .i64 a, .int .i64 b, .int .i64 c])).run Try.prog W = .ok () (W.setRow B #[.int .i64 a, .int .i64 b, .int .i64 c]) := by
  have := run_storeVar_row (P := Try.prog) W B 36 36 C #[.int .i64 a, .int .i64 b, .int .i64 c] h infoR (by rw [hC]; rfl) (by simp [Value.oneCell'])
  simp only [Instr.storeAt, Instr.sureAddr, Sem.run_bind, Sem.run_pure, Result.andThen_ok, this]
theorem load_er {W : World} {B : Nat} {a b c s : Value} (h : W.heap[B]? = some (.cells #[a, b, c, s] 84 (0, 0))) : (Instr.loadAt 36 (.pointer (some ⟨B, 0, none⟩))).run Try.prog W = .ok (.agg #[a, b, c]) W := by
  have c0 := cell_at h 0
  have c1 := cell_at h 1
  have c2 := cell_at h 2
  go_simp
/-- While a record is told. -/
def JP (w : World) (x : Nat) (r : Rec) (s : Int) (b : Bool) (W : World) : Prop := W.heap[w.heap.size]? = some (.cells (if b = true then rA r else r0A) 36 (0, 0)) ∧ W.heap[x]? = some (.cells (eA r s) 84 (0, 0)) ∧ Below w.heap.size w W
theorem JP.store {w : World} {x : Nat} {r : Rec} {s : Int} {b : Bool} {W : World} (h : JP w x r s b W) : ∃ W', (Instr.storeAt 36 (.pointer (some ⟨w.heap.size, 0, none⟩)) (rV r)).run Try.prog W = .ok () W' ∧ JP w x r s true W' := by
  refine ⟨_, store_rec h.1 (by cases b <;> rfl), setRow_heap _ _ _ _ _ _ h.1, ?_, below_setRow h.2.2 (Nat.le_refl _) _⟩
  have hx : x ≠ w.heap.size := fun e => by
    have h2 := h.2.1
    rw [e, h.1] at h2
    simp only [Option.some.injEq, Obj.cells.injEq] at h2
    exact absurd h2.2.1 (by decide)
  exact (setRow_other _ _ _ _ hx).trans h.2.1
theorem JP.drew {w : World} {x : Nat} {r : Rec} {s : Int} {b : Bool} {W : World} (h : JP w x r s b W) : JP w x r s b W.drew := ⟨h.1, h.2.1, h.2.2.drew⟩
def decV : Option (Rec × Int) → Value
  | none => .tuple #[.agg r0A, .int .i64 0, .int .i64 70]
  | some (r, s) => .tuple #[rV r, .int .i64 s, .int .i64 0]
end Go.Proofs.Ytjleggnkacmbbaa
