/- What holds behind every script: mathematics alone; what abides while a bag turns. -/
import Derived.Test.YtenahcdmdhlieaaBgo
namespace Go.Proofs.Ytenahcdmdhlieaa
open Go.RowKit Go.Shelf

/-- What was made and not taken is there, each by an id of its own. -/
structure RI (room : Int) (q : Nat × Nat × Int × List Gr) : Prop where
  la : q.2.2.1 = (q.1 : Int)
  ct : q.2.2.2.length + q.2.1 = q.1
  le : (q.2.2.2.length : Int) ≤ room
  id : ∀ x ∈ q.2.2.2, 1 ≤ x.1 ∧ x.1 ≤ q.2.2.1
  nd : (q.2.2.2.map (·.1)).Nodup
  dt : ∀ x ∈ q.2.2.2, x.2.2.2.length ≤ 1024
theorem ri_add {room : Int} {m t : Nat} {la : Int} {l : List Gr} (h : RI room (m, t, la, l)) (f g : Int) (d : List Nat) (hd : d.length ≤ 1024) : RI room (m + (if (sAdd room la l f g d).2.1 = 0 then 1 else 0), t, (sAdd room la l f g d).2.2) := by
  have h1 := h.la
  have h2 := h.ct
  have h3 := h.le
  dsimp only at h1 h2 h3
  unfold sAdd
  by_cases hf : (l.length : Int) = room
  · rw [if_pos hf]
    exact h
  · rw [if_neg hf]
    refine ⟨?_, ?_, ?_, fun x hx => ?_, ?_, fun x hx => ?_⟩
    · show la + 1 = ((m + 1 : Nat) : Int)
      omega
    · show (l ++ [_]).length + t = m + 1
      simp
      omega
    · show ((l ++ [_]).length : Int) ≤ room
      simp
      omega
    · rcases List.mem_append.1 hx with k | k
      · have := h.id x k
        dsimp only at this ⊢
        omega
      · simp at k
        subst k
        dsimp only
        omega
    · show ((l ++ [(la + 1, f, g, d)]).map (fun x : Gr => x.1)).Nodup
      rw [List.map_append, List.nodup_append]
      refine ⟨h.nd, by simp, fun a ha b hb e => ?_⟩
      obtain ⟨x, hx, rfl⟩ := List.mem_map.1 ha
      simp at hb
      have := (h.id x hx).2
      dsimp only at this
      omega
    · rcases List.mem_append.1 hx with k | k
      · exact h.dt x k
      · simp at k
        subst k
        exact hd
theorem del_eq {α : Type} (l : List α) (k : Nat) : l.take k ++ l.drop (k + 1) = l.eraseIdx k := (List.eraseIdx_eq_take_drop_succ l k).symm
theorem perm_mv {α : Type} {l : List α} {k j : Nat} {x : α} (h : l[k]? = some x) : ((l.take k ++ l.drop (k + 1)).take j ++ x :: (l.take k ++ l.drop (k + 1)).drop j).Perm l := by
  have h1 : ((l.take k ++ l.drop (k + 1)).take j ++ x :: (l.take k ++ l.drop (k + 1)).drop j).Perm (x :: (l.take k ++ l.drop (k + 1))) := by
    have := List.perm_middle (a := x) (l₁ := (l.take k ++ l.drop (k + 1)).take j) (l₂ := (l.take k ++ l.drop (k + 1)).drop j)
    rwa [List.take_append_drop] at this
  have h2 : l = l.take k ++ x :: l.drop (k + 1) := by
    obtain ⟨hk, rfl⟩ := List.getElem?_eq_some_iff.1 h
    rw [← List.drop_eq_getElem_cons hk, List.take_append_drop]
  exact h1.trans (List.perm_middle.symm.trans (h2 ▸ List.Perm.refl _))
theorem ri_perm {room : Int} {m t : Nat} {la : Int} {l l' : List Gr} (h : RI room (m, t, la, l)) (hp : l'.Perm l) : RI room (m, t, la, l') :=
  ⟨h.la, by have := h.ct; have := hp.length_eq; dsimp only at *; omega, by have := h.le; have := hp.length_eq; dsimp only at *; omega, fun x hx => h.id x (hp.mem_iff.1 hx), ((hp.map (·.1)).nodup_iff).2 h.nd, fun x hx => h.dt x (hp.mem_iff.1 hx)⟩
theorem map_spo (l : List Gr) (k : Nat) (x : Gr) (j b : Nat) (h : l[k]? = some x) : (l.set k (spo x j b)).map (·.1) = l.map (·.1) := by
  rw [List.map_set]
  have : (l.map (·.1))[k]? = some (spo x j b).1 := by simp [h, spo]
  obtain ⟨hk, e⟩ := List.getElem?_eq_some_iff.1 this
  rw [← e]
  exact List.set_getElem_self hk
theorem RI.step {room : Int} {q : Nat × Nat × Int × List Gr} (h : RI room q) (o : Op6) : RI room (rS room q o) := by
  obtain ⟨m, t, la, l⟩ := q
  obtain ⟨kd, wh, oi, oj, ok, od⟩ := o
  unfold rS stE stT stS
  dsimp only
  by_cases h1 : kd = 1
  · subst h1
    simp only [if_true, show ¬ ((1 : Int) = 3) by decide, if_false, show ¬ ((1 : Int) = 0) by decide, Nat.add_zero]
    unfold sSend
    by_cases hd : 1024 < od.length
    · rw [if_pos hd]
      exact h
    · rw [if_neg hd]
      exact ri_add h oi oj od (by omega)
  · rw [if_neg h1]
    by_cases h3 : kd = 3
    · subst h3
      simp only [if_true, show ¬ ((3 : Int) = 4) by decide, show ¬ ((3 : Int) = 1) by decide, if_false, show ¬ ((1 : Int) = 0) by decide, Nat.add_zero]
      unfold sTk
      by_cases hi : 0 ≤ oi ∧ oi < (l.length : Int)
      · rw [if_pos hi]
        dsimp only
        rw [del_eq]
        have hs := List.eraseIdx_sublist l oi.toNat
        have hl : (l.eraseIdx oi.toNat).length = l.length - 1 := List.length_eraseIdx_of_lt (by omega)
        refine ⟨h.la, ?_, ?_, fun x hx => h.id x (hs.subset hx), (hs.map _).nodup h.nd, fun x hx => h.dt x (hs.subset hx)⟩
        · show (l.eraseIdx oi.toNat).length + (t + 1) = m
          have := h.ct
          dsimp only at this
          omega
        · show ((l.eraseIdx oi.toNat).length : Int) ≤ room
          have := h.le
          dsimp only at this
          omega
      · rw [if_neg hi]
        exact h
    · rw [if_neg h3, if_neg h1]
      by_cases h4 : kd = 4
      · subst h4
        simp only [if_true, show ¬ ((4 : Int) = 3) by decide, if_false, show ¬ ((1 : Int) = 0) by decide, Nat.add_zero]
        unfold sDb
        by_cases hi : 0 ≤ oi ∧ oi < (l.length : Int)
        · rw [if_pos hi]
          obtain ⟨x, hx⟩ : ∃ x, l[oi.toNat]? = some x := ⟨_, List.getElem?_eq_getElem (by omega)⟩
          rw [hx]
          exact ri_add h _ _ _ (h.dt x (List.mem_of_getElem? hx))
        · rw [if_neg hi]
          exact h
      · rw [if_neg h4, if_neg h3, if_neg h4]
        simp only [show ¬ ((1 : Int) = 0) by decide, if_false, Nat.add_zero]
        by_cases h5 : kd = 5
        · subst h5
          rw [if_pos rfl]
          unfold sMv
          by_cases hi : (0 ≤ oi ∧ oi < (l.length : Int)) ∧ (0 ≤ oj ∧ oj < (l.length : Int))
          · rw [if_pos hi]
            obtain ⟨x, hx⟩ : ∃ x, l[oi.toNat]? = some x := ⟨_, List.getElem?_eq_getElem (by omega)⟩
            rw [hx]
            exact ri_perm h (perm_mv hx)
          · rw [if_neg hi]
            exact h
        · rw [if_neg h5]
          by_cases h6 : kd = 6
          · subst h6
            rw [if_pos rfl]
            unfold sSp
            by_cases hi : 0 ≤ oi ∧ oi < (l.length : Int)
            · rw [if_pos hi]
              obtain ⟨x, hx⟩ : ∃ x, l[oi.toNat]? = some x := ⟨_, List.getElem?_eq_getElem (by omega)⟩
              rw [hx]
              dsimp only [Option.getD_some]
              by_cases hb : (1 ≤ ok ∧ ok ≤ 255) ∧ x.2.2.2 ≠ []
              · rw [if_pos hb]
                have hset : ∀ y ∈ l.set oi.toNat (spo x (oj % (x.2.2.2.length : Int)).toNat ok.toNat), y ∈ l ∨ y = spo x (oj % (x.2.2.2.length : Int)).toNat ok.toNat := fun y hy => List.mem_or_eq_of_mem_set hy
                have hxm := List.mem_of_getElem? hx
                refine ⟨h.la, ?_, ?_, fun y hy => ?_, ?_, fun y hy => ?_⟩
                · simpa using h.ct
                · simpa using h.le
                · rcases hset y hy with k | k
                  · exact h.id y k
                  · rw [k]
                    exact h.id x hxm
                · show (List.map _ (l.set _ _)).Nodup
                  rw [map_spo l _ x _ _ hx]
                  exact h.nd
                · rcases hset y hy with k | k
                  · exact h.dt y k
                  · rw [k]
                    show (List.set _ _ _).length ≤ 1024
                    rw [List.length_set]
                    exact h.dt x hxm
              · rw [if_neg hb]
                exact h
            · rw [if_neg hi]
              exact h
          · rw [if_neg h6]
            exact h
theorem fold_ri {room : Int} : ∀ (ops : List Op6) (q : Nat × Nat × Int × List Gr), RI room q → RI room (ops.foldl (rS room) q)
  | [], _, h => h
  | o :: ops, _, h => fold_ri ops _ (h.step o)
theorem rst_ri {room : Int} (h : 0 ≤ room) (ops : List Op6) : RI room (rst room 0 [] ops) := fold_ri ops _ ⟨rfl, rfl, by simpa using h, by simp, by simp, by simp⟩
theorem fold_le {room : Int} : ∀ (ops : List Op6) (q : Nat × Nat × Int × List Gr), (ops.foldl (rS room) q).1 ≤ q.1 + ops.length
  | [], _ => by simp
  | o :: ops, q => by
    have h1 := fold_le (room := room) ops (rS room q o)
    have h2 : (rS room q o).1 ≤ q.1 + 1 := by unfold rS; dsimp only; split <;> omega
    simp only [List.foldl_cons, List.length_cons]
    omega
theorem rst_le (room : Int) (ops : List Op6) : (rst room 0 [] ops).1 ≤ ops.length := by
  have := fold_le (room := room) ops (0, 0, 0, [])
  simpa [rst] using this
/-- All blocks but those of bags and their lists lie as they lay. -/
def Sv (W W' : World) : Prop := ∀ (k : Nat) (cur : Array Value) (t : TypeId) (z : Nat × Nat), t ≠ 56 → t ≠ 63 → W.heap[k]? = some (.cells cur t z) → W'.heap[k]? = some (.cells cur t z)
theorem Sv.of {W W' : World} (hb : Below W.heap.size W W') : Sv W W' := fun _ _ _ _ _ _ h => (hb.block _ (lt_at h)).trans h
theorem Bg.sv {W W' : World} {base p : Nat} {ad : Option Addr} {cap : Nat} {room last : Int} {ps : List Nat} {l : List Gr} (h : Bg W base p ad cap room last ps l) {g' : Option Nat} (ht : Tn p (ob ad) g' W W') : Sv W W' := fun _ _ _ _ h1 h2 hk => h.stays ht hk h1 h2
theorem Sv.gb {W W' : World} (h : Sv W W') {b : Nat} {i f t : Int} {v : Value} (hg : GB W b i f t v) : GB W' b i f t v := h _ _ _ _ (by decide) (by decide) hg
theorem Sv.row {W W' : World} (h : Sv W W') {base : Nat} {e : TypeId} {size : Nat} {v : Value} {n : Nat} {xs : List Value} (h1 : e ≠ 56) (h2 : e ≠ 63) (ho : W.ownsRow base e size v n xs) : W'.ownsRow base e size v n xs := by
  refine ⟨ho.1, ?_⟩
  rcases ho.2 with k1 | ⟨g, cap, cur, k1, k2, k3, k4⟩
  · exact .inl k1
  · exact .inr ⟨g, cap, cur, k1, k2, h _ _ _ _ h1 h2 k3, k4⟩
theorem Sv.rd {W W' : World} (h : Sv W W') {a : Option Addr} {d : List Nat} (hd : RdY W a d) : RdY W' a d := fun hn => by
  obtain ⟨b, off, h1, ⟨cur, h2⟩, h3⟩ := hd hn
  have h4 := h _ _ _ _ (by decide) (by decide) h2
  exact ⟨b, off, h1, ⟨cur, h4⟩, h3.carry (h4.trans h2.symm)⟩
theorem Sv.gs {W W' : World} (h : Sv W W') {B D : Nat} {v : Value} {l : List Gr} {av : List (Option Addr × Nat)} (hg : Gs W B D v l av) : Gs W' B D v l av := ⟨h.row (by decide) (by decide) hg.row, hg.len, fun k x a h1 h2 => h.row (by decide) (by decide) (hg.dat k x a h1 h2)⟩
end Go.Proofs.Ytenahcdmdhlieaa
