/- The document's Round and Spoil: what they answer. -/
import Derived.Test.YtjfbnikbmadgkaaGreatBgv
namespace Go.Proofs.YtjfbnikbmadgkaaGreat
open Go.RowKit Go.Shelf

theorem rnd_eq {m : Nat} (hm : 0 < m) (v : Int) : (v.tmod (m : Int) < 0 → v.tmod (m : Int) + (m : Int) = v % (m : Int)) ∧ (¬ v.tmod (m : Int) < 0 → v.tmod (m : Int) = v % (m : Int)) := by
  have hm' : (0 : Int) < (m : Int) := by omega
  have hr := rem_pos hm v
  have a1 : -(m : Int) < v.tmod (m : Int) := by have := Int.lt_tmod_of_pos v hm'; omega
  have a2 : v.tmod (m : Int) < (m : Int) := Int.tmod_lt_of_pos v hm'
  generalize v.tmod (m : Int) = z at *
  constructor
  · intro hz
    rw [← hr, Int.tmod_eq_emod_of_nonneg (by omega), Int.emod_eq_of_lt (by omega) (by omega)]
  · intro hz
    rw [← hr, Int.tmod_eq_emod_of_nonneg (by omega), Int.add_emod_right, Int.emod_eq_of_lt (by omega) (by omega)]
set_option maxHeartbeats 1000000 in
set_option maxRecDepth 100000 in
theorem rRound_any (v : Int) (m : Nat) (h0 : 0 < m) (h1 : m ≤ 1024) (w : World) : Calls Tryz.prog 88 #[.int .i64 v, .int .i64 (m : Int)] w fun e w' => e = .returned (.int .i64 (v % (m : Int))) ∧ w' = w := by
  have hm' : (0 : Int) < (m : Int) := by omega
  have hm0 : ¬ (m : Int) = 0 := by omega
  have hm1 : ¬ m = 0 := by omega
  have a1 : -(m : Int) < v.tmod (m : Int) := by have := Int.lt_tmod_of_pos v hm'; omega
  have a2 : v.tmod (m : Int) < (m : Int) := Int.tmod_lt_of_pos v hm'
  obtain ⟨r1, r2⟩ := rnd_eq h0 v
  by_cases hz : v.tmod (m : Int) < 0
  · have hr := r1 hz
    clear r1 r2
    go_enter Tryz.func88, Tryz.ntmps88
    go_wp2
    go_ret
    exact ⟨by rw [← hr]; rfl, rfl⟩
  · have hr := r2 hz
    clear r1 r2
    go_enter Tryz.func88, Tryz.ntmps88
    go_wp2
    go_ret
    exact ⟨by rw [← hr]; rfl, rfl⟩
section
variable {w : World} {base lb o : Nat} {ad : Option Addr} {cap : Nat} {last most : Int} {l : List Gr} {av : List (Option Addr × Nat)}
theorem flG_set3 : ∀ (l : List Gr) (v : List (Option Addr × Nat)) (k : Nat) (x : Gr) (d : List Nat) (a : Option Addr × Nat), l[k]? = some x → v.length = l.length → d.length = x.2.2.2.length → (flG l v).set (k * 4 + 3) (.slice a.1 x.2.2.2.length a.2) = flG (l.set k (x.1, x.2.1, x.2.2.1, d)) (v.set k a)
  | [], _, k, x, d, a, h, _, _ => by simp at h
  | _ :: _, [], k, x, d, a, _, h, _ => by simp at h
  | y :: l, b :: v, 0, x, d, a, h, h2, h3 => by
    simp at h
    subst h
    simp [flG, gv, h3]
  | y :: l, b :: v, k + 1, x, d, a, h, h2, h3 => by
    have ih := flG_set3 l v k x d a (by simpa using h) (by simpa using h2) h3
    rw [List.set_cons_succ, List.set_cons_succ, flG, flG, ← ih, show (k + 1) * 4 + 3 = (gv y b.1 b.2).length + (k * 4 + 3) by simp [gv]; omega, List.set_append_right _ _ (by omega), Nat.add_sub_cancel_left]
theorem row_put4 {w : World} {base : Nat} {e : TypeId} {n g cap j : Nat} {xs : List Value} (h : w.ownsRow base e 4 (.slice (some ⟨g, 0, none⟩) n cap) n xs) (u : Value) : (w.setCell ⟨g, j, none⟩ u).ownsRow base e 4 (.slice (some ⟨g, 0, none⟩) n cap) n (xs.set j u) := by
  refine ⟨by simpa using h.1, ?_⟩
  rcases h.2 with ⟨h1, _⟩ | ⟨g1, cap1, cur, h1, h2, h3, h4, h5, h6, h7⟩
  · cases h1
  · cases h1
    refine .inr ⟨g, cap, cur.setIfInBounds j u, rfl, h2, heap_setCell_same _ _ j _ _ u h3, h4, h5, by simpa using h6, ?_⟩
    rw [← h7, Array.toList_setIfInBounds, List.take_set]
/-- One datagram's bytes are put. -/
theorem Rg.put {g : Nat} (h : Rg w base lb o (some ⟨g, 0, none⟩) cap last most l av) {k : Nat} {x : Gr} (hk : l[k]? = some x) (d : List Nat) (a : Option Addr × Nat) (hd : RdY w a.1 d) (hn : a.1 = none → a.2 = 0) (hl : d.length = x.2.2.2.length) (hb : Byt d) : Rg (w.setCell ⟨g, k * 4 + 3, none⟩ (.slice a.1 x.2.2.2.length a.2)) base lb o (some ⟨g, 0, none⟩) cap last most (l.set k (x.1, x.2.1, x.2.2.1, d)) (av.set k a) ∧ Tr lb o (some g) (some g) w (w.setCell ⟨g, k * 4 + 3, none⟩ (.slice a.1 x.2.2.2.length a.2)) := by
  have hne := h.ne
  have hlg : lb ≠ g := fun e => hne (congrArg some e.symm)
  obtain ⟨cur, hc⟩ := h.blk
  have hbl : (w.setCell ⟨g, k * 4 + 3, none⟩ (.slice a.1 x.2.2.2.length a.2)).heap[lb]? = w.heap[lb]? := Below.heap_setCell _ _ _ _ hlg
  have ce : ∀ j, (w.setCell ⟨g, k * 4 + 3, none⟩ (.slice a.1 x.2.2.2.length a.2)).cell? ⟨lb, j, none⟩ = w.cell? ⟨lb, j, none⟩ := fun j => World.cell?_of_block (a := ⟨lb, j, none⟩) hbl
  have ht : Tr lb o (some g) (some g) w (w.setCell ⟨g, k * 4 + 3, none⟩ (.slice a.1 x.2.2.2.length a.2)) := ⟨rfl, rfl, rfl, by simp, fun j _ _ h2 => Below.heap_setCell _ _ _ _ (fun e => h2 (congrArg some e)), fun j _ => ce j, fun cur' hc' => ⟨cur', hbl.trans hc'⟩, .inl rfl⟩
  have hr := row_put4 (j := k * 4 + 3) h.row (.slice a.1 x.2.2.2.length a.2)
  rw [flG_set3 l av k x d a hk h.len hl] at hr
  refine ⟨⟨by rw [List.length_set]; exact (ce _).trans h.cL, (ce _).trans h.cA, (ce _).trans h.cM, ⟨cur, hbl.trans hc⟩, by rw [List.length_set]; exact hr, by simpa using h.len, fun j x' a' h1 h2 => ?_, fun z hz => ?_, h.most1, by simpa using h.le⟩, ht⟩
  · by_cases hj : j = k
    · subst hj
      have b1 := (List.getElem?_eq_some_iff.1 h1).1
      have b2 := (List.getElem?_eq_some_iff.1 h2).1
      rw [List.getElem?_set_self (by simpa using b1)] at h1
      rw [List.getElem?_set_self (by simpa using b2)] at h2
      cases h1
      cases h2
      exact ⟨h.rd ht hd, hn⟩
    · rw [List.getElem?_set_ne (Ne.symm hj)] at h1 h2
      exact ⟨h.rd ht (h.dat j x' a' h1 h2).1, (h.dat j x' a' h1 h2).2⟩
  · rcases List.mem_or_eq_of_mem_set hz with q | q
    · exact h.few z q
    · rw [q]
      exact ⟨by show d.length ≤ 1024; rw [hl]; exact (h.few x (List.mem_of_getElem? hk)).1, hb⟩
end
end Go.Proofs.YtjfbnikbmadgkaaGreat
