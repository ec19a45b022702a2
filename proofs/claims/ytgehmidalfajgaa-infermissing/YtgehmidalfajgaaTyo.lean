/- The play: a tally and the document's, side by side. -/
import Derived.Test.YtgehmidalfajgaaTym
namespace Go.Proofs.Ytgehmidalfajgaa
open Go.RowKit Go.Shelf

/-- Ahead of the document's Take, and behind it. -/
def Kt (w : World) (base p : Nat) (az : Option Addr) (t : Tl) (o : Rp) (wh : List Int) (d : Bool) (V : World) : Prop := match d with
  | false => Below w.heap.size w V
  | true => ∃ ah' ch' az' cs' wh', Rf V base p (tko t o) ah' ch' az' cs' wh' ∧ Cw (tko t o) wh' ∧ Tp p w V ∧ (az' = az ∨ ∀ b, ob az' = some b → w.heap.size ≤ b) ∧ (wh = wh ∨ True)
theorem Kt.go {w V : World} {base p ch cs : Nat} {ah az : Option Addr} {t : Tl} {o : Rp} {wh : List Int} (h : Kt w base p az t o wh false V) (hR : Rf w base p t ah ch az cs wh) (hc : Cw t wh) (hv : Tv t) (hb : base ≤ w.heap.size) (hN : o.N < S128) : Calls Try.prog 20 #[.pointer (some ⟨p, 0, none⟩), .int .i64 o.f, .int .i64 o.r, sv o.N] V fun e w' => e = .returned (.tuple #[.int .i64 (kd (fto t o)), .int .i64 (ke (fto t o))]) ∧ Kt w base p az t o wh true w' := by
  have h' : Below w.heap.size w V := h
  refine (rTake_any (hR.carry h') hc hv (Nat.le_trans hb h'.size) o.f o.r o.N hN).mono ?_
  rintro e w' ⟨rfl, ah', ch', az', cs', wh', h1, h2, h3, h4⟩
  exact ⟨rfl, ah', ch', az', cs', wh', h1, h2, (Tp.of p h').trans h3, h4.imp_right (fun q b e => Nat.le_trans h'.size (q b e)), .inr trivial⟩
/-- Both, while the play goes on. -/
def Pl (w : World) (B q base p : Nat) (t : Tl) (V : World) : Prop := ∃ ad cap ah ch az cs wh, Ta V B q ad cap t ∧ Rf V base p t ah ch az cs wh ∧ Cw t wh ∧ (∀ b, ob ad = some b → ob az ≠ some b) ∧ Below w.heap.size w V
theorem Pl.carry {w V V' : World} {B q base p : Nat} {t : Tl} (h : Pl w B q base p t V) (hb : Below V.heap.size V V') : Pl w B q base p t V' := by
  obtain ⟨ad, cap, ah, ch, az, cs, wh, h1, h2, h3, h4, h5⟩ := h
  exact ⟨ad, cap, ah, ch, az, cs, wh, h1.carry hb, h2.carry hb, h3, h4, bel2 h5 hb⟩
theorem tn_rf {w V : World} {B q base p cap ch cs : Nat} {ad ad' ah az : Option Addr} {t t' : Tl} {wh : List Int} (hT : Ta w B q ad cap t) (hn : Tn q (ob ad) (ob ad') w V) (hR : Rf w base p t' ah ch az cs wh) (hap : ∀ b, ob ad = some b → ob az ≠ some b) : Rf V base p t' ah ch az cs wh ∧ (∀ b, ob ad' = some b → ob az ≠ some b) := by
  obtain ⟨h1, h2⟩ := tn_row hT hn hR.rs hap
  exact ⟨⟨hR.pb, hT.stays hn hR.obj (by decide) (by decide), tn_rowI hT hn hR.ri, h1, hR.ln, hR.pos⟩, h2⟩
theorem Ta.tp {w V : World} {B q p cap : Nat} {ad : Option Addr} {t : Tl} {C : Array Value} (hT : Ta w B q ad cap t) (hp : w.heap[p]? = some (.cells C 49 (0, 0))) (ht : Tp p w V) : Ta V B q ad cap t := by
  refine ⟨hT.qb, (ht.block q hT.lt (fun e => ?_)).trans hT.obj, row_moved hT.row (fun b e => ht.block b (row_lt2 hT.row b e).2 (fun e2 => ?_))⟩
  · subst e
    have := hp.symm.trans hT.obj
    simp only [Option.some.injEq, Obj.cells.injEq] at this
    exact absurd this.2.1 (by decide)
  · subst e2
    exact row_type hT.row hp (by decide) e
theorem RdP.carry {w V : World} {ad : Option Addr} {l : List Rp} (h : RdP w w.heap.size ad l) (hb : Below w.heap.size w V) : RdP V V.heap.size ad l := fun n o hn => by
  obtain ⟨b, off, e, h1, h2, h3⟩ := h n o hn
  exact ⟨b, off, e, Nat.lt_of_lt_of_le h1 hb.size, h2.carry hb h1, h3⟩
end Go.Proofs.Ytgehmidalfajgaa
