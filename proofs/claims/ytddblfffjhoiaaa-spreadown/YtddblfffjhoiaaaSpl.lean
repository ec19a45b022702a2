/- SpreadOwn: what a node has of itself behind Absorb. -/
import Derived.Test.YtddblfffjhoiaaaSpk
namespace Go.Proofs.Ytddblfffjhoiaaa
open Go.RowKit Go.Shelf Go.Lib

/-- While the list is gone through: the list, what was, what is now. -/
structure JO (w : World) (ad : Option Addr) (l : List N3) (Bw Bn : Nat) (x y : N3) (W : World) : Prop where
  rd : RdN W ad l
  was : NB W Bw x.1 x.2.1 x.2.2
  now : NB W Bn y.1 y.2.1 y.2.2
  be : Below w.heap.size w W
theorem JO.carry {w W V : World} {ad : Option Addr} {l : List N3} {Bw Bn : Nat} {x y : N3} (h : JO w ad l Bw Bn x y W) (hb : Below W.heap.size W V) : JO w ad l Bw Bn x y V := ⟨h.rd.carry hb, h.was.carry hb, h.now.carry hb, bel2 h.be hb⟩
theorem own_fact {N s : Nat} (hs : s < N) (l : List N3) : ∃ t k E, (abs (bk0 N s 0) (s : Int) l)[s]? = some ((s : Int), t, k) ∧ (if l.all (vlx (bk0 N s 0).length) = true then (0 : Int) else 50) = E ∧ ((t = 0 ∧ k = 1 ∧ E = 50) ∨ (t = 0 ∧ k = 1 ∧ E = 0) ∨ (k = 2 ∧ E = 0)) ∧ (E = 0 → ∀ x ∈ l, x.1 = (s : Int) → x.2.2 = 2 → bt x.1 x.2.1 x.2.2 (s : Int) t k = false) := by
  have hb0 : Bok (bk0 N s 0) := bk0_bok (by omega) (by omega)
  have hx0 : (bk0 N s 0)[s]? = some ((s : Int), 0, 1) := by rw [bk0_get 0 hs, if_pos rfl]
  by_cases ha : l.all (vlx (bk0 N s 0).length) = true
  · have hA : abs (bk0 N s 0) (s : Int) l = mrg (bk0 N s 0) (l.filter (nm s)) := by unfold abs; rw [if_pos ha]
    have hbo := abs_bok hb0 (s : Int) l
    have hlen := (abs_len hb0 (s : Int) l).trans (bk0_len N s 0)
    obtain ⟨⟨o, t, k⟩, hy⟩ : ∃ y, (abs (bk0 N s 0) (s : Int) l)[s]? = some y := ⟨_, List.getElem?_eq_getElem (by omega)⟩
    have ho : o = (s : Int) := (hbo s _ hy).1
    subst ho
    have hrk : rk t k ≠ -1 := (hbo s _ hy).2
    refine ⟨t, k, 0, hy, if_pos ha, ?_, fun _ x hx hx1 hx2 => ?_⟩
    · rw [hA] at hy
      unfold mrg at hy
      rw [if_pos (all_filter _ ha)] at hy
      rcases fold_rse_mem _ _ _ _ hy with h | h
      · rw [hx0] at h
        cases h
        exact .inr (.inl ⟨rfl, rfl, rfl⟩)
      · have h2 := (List.mem_filter.1 h).2
        have h3 := (rk_ok.1 hrk).2.2
        simp [nm] at h2
        exact .inr (.inr ⟨by omega, rfl⟩)
    · have hmem : x ∈ l.filter (nm s) := List.mem_filter.2 ⟨hx, by simp [nm, hx2]⟩
      have hbt := bat_after hb0 (all_filter (nm (s : Int)) ha) x hmem
      rw [← hA] at hbt
      unfold bat at hbt
      rw [hx1, Int.toNat_natCast, hy] at hbt
      exact hbt
  · refine ⟨0, 1, 50, ?_, if_neg ha, .inl ⟨rfl, rfl, rfl⟩, fun e => absurd e (by decide)⟩
    unfold abs
    rw [if_neg ha]
    exact hx0
theorem bin_eqb {P : Program} {t : TypeId} {x y : Operand} {w : World} (k : IntKind) (a b : Int) (B : Bool) (h : (a == b) = B) : binRun P .eql t x y (.int k a) (.int k b) w = .ok (.bool B) w := by
  rw [← h]
  simp [binRun, go_sem]
theorem nts_idx {W : World} {gb off : Nat} {l : List N3} (h : NtsAt W gb off l) {j : Nat} {x : N3} (hx : l[j]? = some x) : W.cell? ⟨gb, off + j * 3 + 2, none⟩ = some (.int .i64 x.2.2) := (h j x hx).2.2
theorem field_at2 (W : World) (b off : Nat) : (Instr.fieldAt 32 (.pointer (some ⟨b, off, none⟩)) 2).run Try.prog W = .ok (.pointer (some ⟨b, off + 2, none⟩)) W := by go_simp
theorem load_of2 {W : World} {b o : Nat} {v : Int} (h : W.cell? ⟨b, o, none⟩ = some (.int .i64 v)) : (Instr.loadAt 3 (.pointer (some ⟨b, o, none⟩))).run Try.prog W = .ok (.int .i64 v) W := by go_simp
end Go.Proofs.Ytddblfffjhoiaaa
