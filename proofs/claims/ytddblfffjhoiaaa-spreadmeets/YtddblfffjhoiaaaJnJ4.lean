/- SpreadMeets: two books; what lies where. -/
import Derived.Test.YtddblfffjhoiaaaJnJ3
namespace Go.Proofs.Ytddblfffjhoiaaa
open Go.RowKit Go.Shelf Go.Lib

theorem bv_of {W : World} {p g : Nat} {l : List N3} (h : Bk W p g l) (h0 : 1 ≤ l.length) (h1 : l.length ≤ 100) (hb : Bok l) : BV W (.pointer (some ⟨p, 0, none⟩)) l := .inr ⟨p, g, rfl, h, h0, h1, hb⟩
theorem bvs2 {V : World} {p g p' g' : Nat} {a b : List N3} (h : Bk V p g a) (h' : Bk V p' g' b) (ha : Bok a) (hb : Bok b) (hl : a.length = b.length) (h0 : 1 ≤ a.length) (h1 : a.length ≤ 100) : BVs (V.alloc (.cells #[.pointer (some ⟨p, 0, none⟩), .pointer (some ⟨p', 0, none⟩)] 25)) (some ⟨V.heap.size, 0, none⟩) [.pointer (some ⟨p, 0, none⟩), .pointer (some ⟨p', 0, none⟩)] [a, b] := by
  have hr : (V.alloc (.cells #[.pointer (some ⟨p, 0, none⟩), .pointer (some ⟨p', 0, none⟩)] 25)).heap[V.heap.size]? = some (.cells #[.pointer (some ⟨p, 0, none⟩), .pointer (some ⟨p', 0, none⟩)] 25 (0, 0)) := new_at rfl
  refine ⟨rfl, fun _ => ⟨_, _, rfl, lt_at hr, fun k v hk => by rw [Nat.zero_add]; exact (cell_at hr k).trans (by simpa using hk)⟩, fun k v l h1' h2 => ?_⟩
  match k, h1', h2 with
  | 0, h1', h2 => cases h1'; cases h2; exact bv_of (h.alloc _) h0 h1 ha
  | 1, h1', h2 => cases h1'; cases h2; exact bv_of (h'.alloc _) (by omega) (by omega) hb
  | k + 2, h1', h2 => simp at h1'
/-- Both books, while they are made. -/
def JMt (w : World) (A B : List N3) (q : (Nat × Nat) × (Nat × Nat)) (x y : Bool) (V : World) : Prop :=
  match x, y with
  | false, _ => Bks w [] V
  | true, false => Bks w [(q.1.1, q.1.2, A)] V
  | true, true => Bks w [(q.1.1, q.1.2, A), (q.2.1, q.2.2, B)] V
/-- What lies where, when all are compared. -/
structure JMl (w : World) (p g : Nat) (L : List N3) (Bo : Nat) (own : N3) (adT adR : Option Addr) (top rest : List N3) (V : World) : Prop where
  bk : Bk V p g L
  own : NB V Bo own.1 own.2.1 own.2.2
  top : RdN V adT top
  rest : RdN V adR rest
  be : Below w.heap.size w V
theorem JMl.carry {w V V' : World} {p g : Nat} {L : List N3} {Bo : Nat} {own : N3} {adT adR : Option Addr} {top rest : List N3} (h : JMl w p g L Bo own adT adR top rest V) (hb : Below V.heap.size V V') : JMl w p g L Bo own adT adR top rest V' := ⟨h.bk.carry hb, NB.carry h.own hb, h.top.carry hb, h.rest.carry hb, bel2 h.be hb⟩
theorem Made.rd' {w W : World} {v : Value} {l : List N3} {n : Nat} (h : Made w W v l) (hn : l.length = n) : ∃ ad cap, v = .slice ad n cap ∧ RdN W ad l ∧ (∀ a, ad = some a → w.heap.size ≤ a.block) := by
  subst hn
  exact h.rd
theorem bin_eqnb {x y : Operand} {w : World} (a b : N3) (B : Bool) (h : decide (a = b) = B) : binRun Try.prog .eql 32 x y (nt a.1 a.2.1 a.2.2) (nt b.1 b.2.1 b.2.2) w = .ok (.bool B) w := by
  rw [bin_eqn, ← h]
  obtain ⟨a1, a2, a3⟩ := a
  obtain ⟨b1, b2, b3⟩ := b
  simp
theorem bin_remb {P : Program} {t : TypeId} {x y : Operand} {w : World} (a b c : Nat) (hb : 0 < b) (h : a % b = c) : binRun P .rem t x y (.int .i64 (a : Int)) (.int .i64 (b : Int)) w = .ok (.int .i64 (c : Int)) w := by
  rw [← h]
  exact bin_rem64 a b hb
end Go.Proofs.Ytddblfffjhoiaaa
