/- spread.oneSize, Above: what they answer, at any books, nil ones too. -/
import Derived.Test.YtddblfffjhoiaaaSpe
import Derived.Test.YtddblfffjhoiaaaBke
namespace Go.Proofs.Ytddblfffjhoiaaa
open Go.RowKit Go.Shelf Go.Lib
attribute [local go_sem] Oper.semAt_some

/-- A book that is handed in: nil, or one that has l. -/
def BV (W : World) (v : Value) (l : List N3) : Prop := (v = .pointer none ∧ l = []) ∨ ∃ p g, v = .pointer (some ⟨p, 0, none⟩) ∧ Bk W p g l ∧ 0 < l.length ∧ l.length ≤ 100 ∧ Bok l
theorem BV.carry {W V : World} {v : Value} {l : List N3} (h : BV W v l) (hb : Below W.heap.size W V) : BV V v l := by
  rcases h with h | ⟨p, g, e, h, h1⟩
  · exact .inl h
  · exact .inr ⟨p, g, e, h.carry hb, h1⟩
theorem BV.len {W : World} {v : Value} {l : List N3} (h : BV W v l) : l.length ≤ 100 := by
  rcases h with ⟨_, rfl⟩ | ⟨p, g, e, h, h1, h2, _⟩
  · simp
  · exact h2
theorem BV.bok {W : World} {v : Value} {l : List N3} (h : BV W v l) : Bok l := by
  rcases h with ⟨_, rfl⟩ | ⟨p, g, e, h, h1, h2, h3⟩
  · intro i x hx
    simp at hx
  · exact h3
theorem sizeV_any {w : World} {v : Value} {l : List N3} (h : BV w v l) : Calls Try.prog 23 #[v] w fun e w' => e = .returned (.int .i64 (l.length : Int)) ∧ Below w.heap.size w w' := by
  rcases h with ⟨rfl, rfl⟩ | ⟨p, g, rfl, h, _⟩
  · exact esize_any (.inl rfl)
  · exact bsize_any h
/-- What a book has of a node; a zero notice, if it has none. -/
def atN (l : List N3) (id : Int) : N3 := if 0 ≤ id ∧ id < (l.length : Int) then (l[id.toNat]?).getD (0, 0, 0) else (0, 0, 0)
def atE (l : List N3) (id : Int) : Int := if 0 ≤ id ∧ id < (l.length : Int) then 0 else 30
theorem atW_any {w : World} {v : Value} {l : List N3} (h : BV w v l) (id : Int) : Calls Try.prog 12 #[v, .int .i64 id] w fun e w' => e = .returned (.tuple #[nt (atN l id).1 (atN l id).2.1 (atN l id).2.2, .int .i64 (atE l id)]) ∧ Below w.heap.size w w' := by
  rcases h with ⟨rfl, rfl⟩ | ⟨p, g, rfl, h, _⟩
  · have e : ¬ (0 ≤ id ∧ id < (([] : List N3).length : Int)) := by simp
    unfold atN atE
    rw [if_neg e, if_neg e]
    exact eat_any (.inl rfl) id
  · refine (at_any h id).mono ?_
    rintro e w' ⟨rfl, hb⟩
    refine ⟨?_, hb⟩
    by_cases hi : 0 ≤ id ∧ id < (l.length : Int)
    · obtain ⟨i, rfl⟩ : ∃ i : Nat, id = (i : Int) := ⟨id.toNat, by omega⟩
      obtain ⟨x, hx⟩ : ∃ x, l[i]? = some x := ⟨_, List.getElem?_eq_getElem (by omega)⟩
      rw [atV_in hx, atN, atE, if_pos hi, if_pos hi, Int.toNat_natCast, hx]
      rfl
    · rw [atV, atN, atE, if_neg hi, if_neg hi, if_neg hi]
/-- Values that can be read one behind the other. -/
def RdP (W : World) (ad : Option Addr) (vs : List Value) : Prop := vs ≠ [] → ∃ b off, ad = some ⟨b, off, none⟩ ∧ b < W.heap.size ∧ ∀ (k : Nat) v, vs[k]? = some v → W.cell? ⟨b, off + k, none⟩ = some v
theorem RdP.carry {W V : World} {ad : Option Addr} {vs : List Value} (h : RdP W ad vs) (hb : Below W.heap.size W V) : RdP V ad vs := fun hne => by
  obtain ⟨b, off, e, hl, hc⟩ := h hne
  exact ⟨b, off, e, Nat.lt_of_lt_of_le hl hb.size, fun k v hv => (hb.cell (p := ⟨b, _, none⟩) hl).trans (hc k v hv)⟩
/-- Books, one behind the other. -/
structure BVs (W : World) (ad : Option Addr) (vs : List Value) (ls : List (List N3)) : Prop where
  len : vs.length = ls.length
  rd : RdP W ad vs
  bv : ∀ (k : Nat) v l, vs[k]? = some v → ls[k]? = some l → BV W v l
theorem BVs.carry {W V : World} {ad : Option Addr} {vs : List Value} {ls : List (List N3)} (h : BVs W ad vs ls) (hb : Below W.heap.size W V) : BVs V ad vs ls := ⟨h.len, h.rd.carry hb, fun k v l h1 h2 => (h.bv k v l h1 h2).carry hb⟩
theorem BVs.at {W : World} {ad : Option Addr} {vs : List Value} {ls : List (List N3)} (h : BVs W ad vs ls) {k : Nat} {l : List N3} (hk : ls[k]? = some l) : ∃ v b off, vs[k]? = some v ∧ BV W v l ∧ ad = some ⟨b, off, none⟩ ∧ W.cell? ⟨b, off + k, none⟩ = some v ∧ b < W.heap.size := by
  have hk1 : k < vs.length := by rw [h.len]; exact (List.getElem?_eq_some_iff.1 hk).1
  obtain ⟨v, hv⟩ : ∃ v, vs[k]? = some v := ⟨_, List.getElem?_eq_getElem hk1⟩
  obtain ⟨b, off, e, hlt, hc⟩ := h.rd (fun e => by rw [e] at hk1; simp at hk1)
  exact ⟨v, b, off, hv, h.bv k v l hv hk, e, hc k v hv, hlt⟩
theorem BV.ptr {W : World} {v : Value} {l : List N3} (h : BV W v l) : ∃ a, v = .pointer a := by
  rcases h with ⟨e, _⟩ | ⟨p, g, e, _⟩
  · exact ⟨_, e⟩
  · exact ⟨_, e⟩
def BxP (W : World) (b : Nat) (v : Value) : Prop := W.heap[b]? = some (.cells #[v] 45 (0, 0))
theorem load_bxp {W : World} {b : Nat} {v : Value} (h : BxP W b v) : (Instr.loadAt 45 (.pointer (some ⟨b, 0, none⟩))).run Try.prog W = .ok v W := by
  have c0 := cell_at h 0
  simp at c0
  go_simp
theorem idx_p (gb off n cap i : Nat) (h : i < n) (W : World) : (Instr.indexAt 45 (.slice (some ⟨gb, off, none⟩) n cap) (.int .i64 (i : Int))).run Try.prog W = .ok (.pointer (some ⟨gb, off + i, none⟩)) W := by
  have h2 : (i : Int) < (n : Int) := by omega
  go_simp
theorem load_p {W : World} {gb o : Nat} {a : Option Addr} (h : W.cell? ⟨gb, o, none⟩ = some (.pointer a)) : (Instr.loadAt 25 (.pointer (some ⟨gb, o, none⟩))).run Try.prog W = .ok (.pointer a) W := by go_simp
set_option maxHeartbeats 1000000 in
set_option maxRecDepth 100000 in
theorem one1_any {w : World} (b : Nat) (ad : Option Addr) (cap : Nat) (vs : List Value) (ls : List (List N3)) (l l0 : List N3) (v : Value) (hb : BxP w b (.slice ad ls.length cap)) (h : BVs w ad vs ls) (hv : BV w v l) (h0 : ls[0]? = some l0) : Calls Try.prog 46 #[v, .pointer (some ⟨b, 0, none⟩)] w fun e w' => e = .returned (.bool (((l.length : Int) != (l0.length : Int)))) ∧ Below w.heap.size w w' := by
  have hmx : Try.prog.follows .mixedOrders = true := by kernel_rfl
  obtain ⟨v0, gb, off, _, hv0, rfl, hc, hgl⟩ := h.at h0
  have hn : 0 < ls.length := (List.getElem?_eq_some_iff.1 h0).1
  obtain ⟨a0, rfl⟩ := hv0.ptr
  obtain ⟨a, rfl⟩ := hv.ptr
  obtain ⟨N, hN⟩ : ∃ N, ls.length = N := ⟨_, rfl⟩
  rw [hN] at hb hn
  clear hN h h0
  have hj0 : BxP w b (.slice (some ⟨gb, off, none⟩) N cap) ∧ BV w (.pointer a) l ∧ BV w (.pointer a0) l0 ∧ w.cell? ⟨gb, off + 0, none⟩ = some (.pointer a0) ∧ gb < w.heap.size ∧ Below w.heap.size w w := ⟨hb, hv, hv0, hc, hgl, Below.refl _ _⟩
  have step : ∀ {V V' : World}, (BxP V b (.slice (some ⟨gb, off, none⟩) N cap) ∧ BV V (.pointer a) l ∧ BV V (.pointer a0) l0 ∧ V.cell? ⟨gb, off + 0, none⟩ = some (.pointer a0) ∧ gb < V.heap.size ∧ Below w.heap.size w V) → Below V.heap.size V V' → (BxP V' b (.slice (some ⟨gb, off, none⟩) N cap) ∧ BV V' (.pointer a) l ∧ BV V' (.pointer a0) l0 ∧ V'.cell? ⟨gb, off + 0, none⟩ = some (.pointer a0) ∧ gb < V'.heap.size ∧ Below w.heap.size w V') := fun h hb' => ⟨(hb'.block _ (lt_at h.1)).trans h.1, h.2.1.carry hb', h.2.2.1.carry hb', (hb'.cell (p := ⟨gb, _, none⟩) h.2.2.2.2.1).trans h.2.2.2.1, Nat.lt_of_lt_of_le h.2.2.2.2.1 hb'.size, bel2 h.2.2.2.2.2 hb'⟩
  clear hv hv0 hb hc
  go_enter Try.func46, Try.ntmps46
  go_wp2
  rename_i Q0 K0 hK
  refine wp_region_any hmx ?_
  refine wpAny_pure (fun i__ => ([(.pointer a), (.int .i64 (l.length : Int)), (.slice (some ⟨gb, off, none⟩) N cap), (.pointer (some ⟨gb, off + 0, none⟩)), (.pointer a0), (.int .i64 (l0.length : Int)), (.bool ((l.length : Int) != (l0.length : Int))), (.bool ((l.length : Int) != (l0.length : Int)))] : List Value).getD i__ undef) (fun V => BxP V b (.slice (some ⟨gb, off, none⟩) N cap) ∧ BV V (.pointer a) l ∧ BV V (.pointer a0) l0 ∧ V.cell? ⟨gb, off + 0, none⟩ = some (.pointer a0) ∧ gb < V.heap.size ∧ Below w.heap.size w V) (by kernel_rfl) (step hj0 (Below.refl _ _).drew) ?_ ?_
  · refine (stepsFrom_cons ?_ (stepsFrom_cons ?_ (stepsFrom_cons ?_ (stepsFrom_cons ?_ (stepsFrom_cons ?_ (stepsFrom_cons ?_ (stepsFrom_cons ?_ (stepsFrom_cons ?_ trivial))))))))
    · exact step_move rfl trivial _ rfl (by kernel_rfl)
    · exact step_call rfl trivial 23 _ _ [(.pointer a)] rfl (by kernel_rfl) (enters_of Try.func23 (by kernel_rfl) rfl) (fun w hw => (sizeV_any hw.2.1).mono (by rintro e w' ⟨rfl, hb⟩; exact ⟨rfl, step hw hb⟩))
    · exact step_load rfl trivial _ _ _ rfl rfl (fun w hw => load_bxp hw.1)
    · exact step_indexAddr rfl trivial _ _ _ _ _ rfl rfl rfl (fun w hw => idx_p gb off N cap 0 hn w)
    · exact step_load rfl trivial _ _ _ rfl rfl (fun w hw => load_p hw.2.2.2.1)
    · exact step_call rfl trivial 23 _ _ [(.pointer a0)] rfl (by kernel_rfl) (enters_of Try.func23 (by kernel_rfl) rfl) (fun w hw => (sizeV_any hw.2.2.1).mono (by rintro e w' ⟨rfl, hb⟩; exact ⟨rfl, step hw hb⟩))
    · exact step_binOp rfl trivial _ _ _ _ _ _ _ rfl rfl rfl (fun w hw => bin_neq _ _ _)
    · exact step_assign rfl trivial _ rfl (by kernel_rfl) (fun _ h => h)
  intro W hW
  first | refine hK _ _ ?_ | refine (‹∀ (a : Act) (w : World), Code.wp Try.prog _ _ a w → _›) _ _ ?_
  simp only [finL, List.getD_cons_zero, List.getD_cons_succ, Nat.zero_add, Nat.reduceAdd, List.setIfInBounds_toArray, List.set_cons_zero, List.set_cons_succ]
  go_wp2
  go_ret
  exact ⟨rfl, hW.2.2.2.2.2⟩
set_option maxHeartbeats 4000000 in
set_option maxRecDepth 100000 in
theorem idxP_any {w : World} (b : Nat) (ad : Option Addr) (cap : Nat) (vs : List Value) (ls : List (List N3)) (l0 : List N3) (hb : BxP w b (.slice ad ls.length cap)) (h : BVs w ad vs ls) (h0 : ls[0]? = some l0) (hl : ls.length ≤ 1000000) : Calls Try.prog 59 #[.slice ad ls.length cap, .func (.func 46) #[] #[.pointer (some ⟨b, 0, none⟩)]] w fun e w' => ∃ z : Int, e = .returned (.int .i64 z) ∧ decide (z ≥ 0) = !ls.all (fun l => decide (l.length = l0.length)) ∧ Below w.heap.size w w' := by
  have HO : Hid (∀ (W : World) (v : Value) (l : List N3), BV W v l → Below w.heap.size w W → Calls Try.prog 46 #[v, .pointer (some ⟨b, 0, none⟩)] W fun e w' => e = .returned (.bool (((l.length : Int) != (l0.length : Int)))) ∧ Below W.heap.size W w') := fun W v l hv hW => one1_any b ad cap vs ls l l0 v ((hW.block _ (lt_at hb)).trans hb) (h.carry hW) hv h0
  obtain ⟨N, hN⟩ : ∃ N, ls.length = N := ⟨_, rfl⟩
  have HN : Hid (ls.length = N) := hN
  have HR : Hid (BVs w ad vs ls) := h
  rw [hN] at hl ⊢
  clear hN h h0 hb
  go_enter Try.func59, Try.ntmps59
  go_wp2
  go_loopw [8] (fun i wz => ∃ (k : Nat), i = .int .i64 k ∧ k ≤ N ∧ (ls.take k).all (fun l => decide (l.length = l0.length)) = true ∧ Below w.heap.size w wz) (fun i _ => N - vnatR i)
  case atStart => exact ⟨0, rfl, Nat.zero_le _, rfl, Below.refl _ _⟩
  case round =>
    obtain ⟨k, rfl, hk, hall, hbw⟩ := hrel
    have HK : Hid ((ls.take k).all (fun l => decide (l.length = l0.length)) = true) := hall
    clear hall
    by_cases hkl : k < N
    · have hki : (k : Int) < (N : Int) := by omega
      have hkl1 : k < ls.length := by rw [HN.out]; exact hkl
      obtain ⟨l, hx⟩ : ∃ x, ls[k]? = some x := ⟨_, List.getElem?_eq_getElem hkl1⟩
      obtain ⟨v, gb, off, _, hv, rfl, hc, _⟩ := (HR.out.carry hbw).at hx
      obtain ⟨a, rfl⟩ := hv.ptr
      have ho := HO.out _ _ _ hv hbw
      have HX : Hid (ls[k]? = some l) := hx
      generalize hvv : ((l.length : Int) != (l0.length : Int)) = V at ho
      have HV : Hid (((l.length : Int) != (l0.length : Int)) = V) := hvv
      clear hx hkl1 hvv hv
      cases V with
      | true =>
        go_wp2_with (go_at_call 46; (with_reducible refine ho.mono ?_); rintro e u1 ⟨rfl, hb2⟩)
        go_ret
        refine ⟨_, rfl, ?_, bel2 hbw hb2⟩
        have : ls.all (fun l => decide (l.length = l0.length)) = false := by
          rw [Bool.eq_false_iff]
          intro e
          have h1 := List.all_eq_true.1 e _ (List.mem_of_getElem? HX.out)
          have h2 := HV.out
          simp at h1 h2
          omega
        rw [this]
        simp
      | false =>
        go_wp2_with (go_at_call 46; (with_reducible refine ho.mono ?_); rintro e u1 ⟨rfl, hb2⟩)
        go_roundw
        case rel =>
          refine ⟨k + 1, by simp, by omega, ?_, bel2 hbw hb2⟩
          rw [List.take_add_one, HX.out, List.all_append, HK.out]
          have h2 := HV.out
          simp at h2 ⊢
          omega
        case measure => simp [vnatR]; omega
    · have hkk : k = N := by omega
      subst hkk
      go_wp2
      go_ret
      refine ⟨_, rfl, ?_, hbw⟩
      have := HK.out
      rw [List.take_of_length_le (by rw [HN.out]; exact Nat.le_refl _)] at this
      rw [this]
      rfl
set_option maxHeartbeats 1000000 in
theorem conP_any {w : World} (b : Nat) (ad : Option Addr) (cap : Nat) (vs : List Value) (ls : List (List N3)) (l0 : List N3) (hb : BxP w b (.slice ad ls.length cap)) (h : BVs w ad vs ls) (h0 : ls[0]? = some l0) (hl : ls.length ≤ 1000000) : Calls Try.prog 45 #[.slice ad ls.length cap, .func (.func 46) #[] #[.pointer (some ⟨b, 0, none⟩)]] w fun e w' => e = .returned (.bool (!ls.all (fun l => decide (l.length = l0.length)))) ∧ Below w.heap.size w w' := by
  have hi := idxP_any b ad cap vs ls l0 hb h h0 hl
  go_enter Try.func45, Try.ntmps45
  go_wp2_with (go_at_call 59; (with_reducible refine hi.mono ?_); rintro e u1 ⟨z, rfl, hz, hb2⟩; have HZ : Hid (decide (z ≥ 0) = !ls.all (fun l => decide (l.length = l0.length))) := hz; clear hz)
  go_ret
  refine ⟨?_, hb2⟩
  rw [← HZ.out]
  rfl
/-- Are all of one size? -/
def ones (ls : List (List N3)) : Bool := ls.all (fun l => decide (l.length = (ls.headD []).length))
set_option maxHeartbeats 1000000 in
theorem one_any {w : World} (ad : Option Addr) (cap : Nat) (vs : List Value) (ls : List (List N3)) (h : BVs w ad vs ls) (h0 : 0 < ls.length) (hl : ls.length ≤ 1000000) : Calls Try.prog 22 #[.slice ad ls.length cap] w fun e w' => e = .returned (.bool (ones ls)) ∧ Below w.heap.size w w' := by
  obtain ⟨w1, hw1⟩ : ∃ w1, w.alloc (.cells #[.slice ad ls.length cap] 45) = w1 := ⟨_, rfl⟩
  have hb1 : Below w.heap.size w w1 := by rw [← hw1]; exact al1 _ _
  have hx1 : BxP w1 w.heap.size (.slice ad ls.length cap) := by rw [← hw1]; exact new_at rfl
  have hc := conP_any w.heap.size ad cap vs ls (ls.headD []) hx1 (h.carry hb1) (by cases ls with | nil => simp at h0 | cons a t => rfl) hl
  have c0 := cell_at hx1 0
  simp at c0
  unfold ones
  generalize ls.all (fun l => decide (l.length = (ls.headD []).length)) = B at hc ⊢
  go_enter Try.func22, Try.ntmps22
  go_wp2_with (go_at_call 45; (with_reducible refine hc.mono ?_); rintro e u1 ⟨rfl, hb2⟩)
  go_ret
  exact ⟨by simp, bel2 hb1 hb2⟩
end Go.Proofs.Ytddblfffjhoiaaa
