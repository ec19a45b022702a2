/- The document's Rising, SameNotices: what they answer. -/
import Derived.Test.YtddblfffjhoiaaaRnt
import Derived.Test.YtddblfffjhoiaaaSlg
namespace Go.Proofs.Ytddblfffjhoiaaa
open Go.RowKit Go.Shelf

theorem idx_n (gb off n cap i : Nat) (h : i < n) (W : World) : (Instr.indexAt 22 (.slice (some ⟨gb, off, none⟩) n cap) (.int .i64 (i : Int))).run Try.prog W = .ok (.pointer (some ⟨gb, off + i * 3, none⟩)) W := by
  have h1 : (i : Int) < (n : Int) := by omega
  have h2 : 0 ≤ (i : Int) := by omega
  go_simp
theorem load_at {W : World} {b off : Nat} {l : List (Int × Int × Int)} (h : NtsAt W b off l) {k : Nat} {o t q : Int} (hx : l[k]? = some (o, t, q)) : (Instr.loadAt 32 (.pointer (some ⟨b, off + k * 3, none⟩))).run Try.prog W = .ok (nt o t q) W := by
  obtain ⟨c0, c1, c2⟩ := h k _ hx
  unfold nt
  go_simp
theorem field_at (W : World) (b off : Nat) : (Instr.fieldAt 32 (.pointer (some ⟨b, off, none⟩)) 0).run Try.prog W = .ok (.pointer (some ⟨b, off, none⟩)) W := by go_simp
theorem load_of {W : World} {b off : Nat} {l : List (Int × Int × Int)} (h : NtsAt W b off l) {k : Nat} {o t q : Int} (hx : l[k]? = some (o, t, q)) : (Instr.loadAt 3 (.pointer (some ⟨b, off + k * 3, none⟩))).run Try.prog W = .ok (.int .i64 o) W := by
  obtain ⟨c0, c1, c2⟩ := h k _ hx
  go_simp
theorem un_not {P : Program} (a : Bool) (w : World) : (Op.unary .not (.bool a)).run P w = .ok (.bool (!a)) w := by
  cases a <;> simp [go_sem]
/-- What lies there: two lists. -/
structure JI (w : World) (b off : Nat) (l : List (Int × Int × Int)) (c of : Nat) (m : List (Int × Int × Int)) (W : World) : Prop where
  lt : b < W.heap.size
  at' : NtsAt W b off l
  lt2 : c < W.heap.size
  at2 : NtsAt W c of m
  below : Below w.heap.size w W
theorem NtsAt.carry {W W' : World} {b off : Nat} {l : List (Int × Int × Int)} (h : NtsAt W b off l) (hl : b < W.heap.size) (hb : Below W.heap.size W W') : NtsAt W' b off l := fun k x hk => by
  obtain ⟨c0, c1, c2⟩ := h k x hk
  exact ⟨(hb.cell (p := ⟨b, _, none⟩) hl).trans c0, (hb.cell (p := ⟨b, _, none⟩) hl).trans c1, (hb.cell (p := ⟨b, _, none⟩) hl).trans c2⟩
theorem JI.carry {w : World} {b off c of : Nat} {l m : List (Int × Int × Int)} {W W' : World} (h : JI w b off l c of m W) (hb : Below W.heap.size W W') : JI w b off l c of m W' :=
  ⟨Nat.lt_of_lt_of_le h.lt hb.size, h.at'.carry h.lt hb, Nat.lt_of_lt_of_le h.lt2 hb.size, h.at2.carry h.lt2 hb, bel2 h.below hb⟩
end Go.Proofs.Ytddblfffjhoiaaa
