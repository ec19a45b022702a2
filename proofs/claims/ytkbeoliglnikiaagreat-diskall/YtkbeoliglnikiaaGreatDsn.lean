/- The play's end: what is kept lies apart. -/
import Derived.Test.YtkbeoliglnikiaaGreatDsl
import Derived.Test.YtkbeoliglnikiaaGreatApg
namespace Go.Proofs.YtkbeoliglnikiaaGreat
open Go.RowKit Go.Shelf
theorem NK.bb {σ : Sg} {base bb : Nat} {W : World} (h : NK σ base bb W) : base ≤ bb := by
  obtain ⟨_, _, _, _, _, _, ⟨_, _, _, _, _, _, _, hbb⟩, _⟩ := h
  exact hbb
theorem NK.kl {σ : Sg} {base bb : Nat} {W : World} (h : NK σ base bb W) : ∃ u v x y L G, Kl base bb W u v x L G ∧ Cp base W v y L := by
  obtain ⟨_, k, x, y, L, G, ⟨u, v, hk, hkb, h6, h7, _, hbb⟩, hl, hL⟩ := h
  subst hl
  refine ⟨u, v, x, y, L, G, ⟨hkb, h6, fun i l hi => ?_, hL.ap, fun i g hi => ?_, hbb, hk⟩, h7, fun i l hi => ?_⟩
  · obtain ⟨z, zc, gi, h1, h2, h3, h4, _, h5⟩ := hL.fl i l hi
    refine ⟨z, gi, h1, h3, ?_, h5⟩
    rcases h4 with h4 | ⟨g, off, cur, k1, k2, k3, k4, k5, k6⟩
    · exact .inl h4
    · exact .inr ⟨g, off, cur, _, k1, k2, k5, by decide, by decide, k6⟩
  · have hi' : i < L.length := by rw [← hL.lg]; exact (List.getElem?_eq_some_iff.1 hi).1
    obtain ⟨z, zc, gi, _, _, h3, h4, _⟩ := hL.fl i _ (List.getElem?_eq_getElem hi')
    rw [hi] at h3
    obtain rfl := Option.some.inj h3
    rcases h4 with ⟨_, _, q⟩ | ⟨g', off, cur, _, k2, k3, _⟩
    · cases q
    · cases k2
      exact k3
  · obtain ⟨z, zc, gi, _, h2, _, _, ⟨ad, c, k1, k2⟩, _⟩ := hL.fl i l hi
    refine ⟨ad, c, by rw [h2, k1], fun hn => ?_⟩
    obtain ⟨g, off, cur, m1, m2, m3, m4⟩ := k2 hn
    exact ⟨g, off, m1, lt_at m3, m4⟩
theorem Pq.kp {σ : Sg} {w : World} {lb bb m q p r c : Nat} {d : Dst} {p' r' c' : Nat} {d' : Dst} {W V : World} (h : Pq σ w lb bb m q p r c d p' r' c' d' W) (hk : Kp w.heap.size bb W V) (hn : NK σ w.heap.size bb V) : Pq σ w lb bb m q p r c d p' r' c' d' V :=
  ⟨h.a.kp hk hn, h.b.kp hk hn, h.np, h.nr, h.fa, h.fb, h.wa, h.wb, hk.below h.low hn.bb (Nat.le_refl _)⟩
theorem NK.apart {σ : Sg} {base bb : Nat} {W : World} (h : NK σ base bb W) (hz : base ≤ W.heap.size) : Calls Tryz.prog 14 #[.pointer (some ⟨bb, 0, none⟩)] W fun e w' => e = .returned (.bool true) ∧ Below base W w' := by
  obtain ⟨u, v, x, y, L, G, h1, h2⟩ := h.kl
  exact apart_any h1 h2 hz
end Go.Proofs.YtkbeoliglnikiaaGreat
