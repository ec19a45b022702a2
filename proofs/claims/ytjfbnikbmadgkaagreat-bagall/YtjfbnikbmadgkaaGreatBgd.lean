/- bag's putIn and takeOut: what they answer. -/
import Derived.Test.YtjfbnikbmadgkaaGreatBgc
import Derived.Laws.AppendOwnNone
namespace Go.Proofs.YtjfbnikbmadgkaaGreat
open Go.RowKit Go.Shelf

section
variable {W : World} {base p : Nat} {ad : Option Addr} {cap : Nat} {room last : Int} {ps : List Nat} {l : List Gr}
/-- The list is turned, and put. -/
theorem Bg.turn {σ : Nat → Prop} {u2 : World} {ad' : Option Addr} {cap' : Nat} {ps' : List Nat} {l' : List Gr} (h : Bg σ W base p ad cap room last ps l) (hg : W.grownBy u2 (ob ad)) (hrow : u2.ownsRow base 104 1 (.slice ad' ps'.length cap') ps'.length (cP ps')) (hown : ob ad' = ob ad ∨ ob ad' = some W.heap.size)
    (hlen : ps'.length = l'.length) (hgr : ∀ (k q : Nat) (x : Gr), ps'[k]? = some q → l'[k]? = some x → GmAt σ W q x) (hle : (l'.length : Int) ≤ room) :
    Bg σ (u2.setCell ⟨p, 2, none⟩ (.slice ad' ps'.length cap')) base p ad' cap' room last ps' l' ∧ Tn p (ob ad) (ob ad') W (u2.setCell ⟨p, 2, none⟩ (.slice ad' ps'.length cap')) := by
  have hne := h.ne
  have ht : Tn p (ob ad) (ob ad') W (u2.setCell ⟨p, 2, none⟩ (.slice ad' ps'.length cap')) := by
    refine ⟨hg.os, hg.tape, hg.output, by simpa using hg.size, fun k hk h1 h2 => (Below.heap_setCell _ _ _ _ h1).trans (hg.block k hk h2), ?_⟩
    rcases hown with q | q
    · exact .inl q
    · exact .inr fun b e => by rw [q] at e; cases e; exact Nat.le_refl _
  have hobj : u2.heap[p]? = some (.cells #[.int .i64 room, .int .i64 last, .slice ad ps.length cap] 54 (0, 0)) := (hg.block p h.plt (fun e => hne e.symm)).trans h.obj
  refine ⟨⟨h.pb, ?_, ?_, hlen, fun k q x h1 h2 => (hgr k q x h1 h2).tn h ht, hle, h.most, fun b q => Nat.lt_of_lt_of_le (h.sg b q) ht.size⟩, ht⟩
  · have := heap_setCell_same _ _ 2 _ _ (.slice ad' ps'.length cap') hobj
    simpa using this
  · refine row_other hrow ?_ _
    rw [ob_eq]
    intro e
    rcases hown with q | q
    · exact hne (q.symm.trans e)
    · rw [q] at e
      have := h.plt
      simp at e
      omega
theorem row_slice {w : World} {base : Nat} {e : TypeId} {v : Value} {n : Nat} {xs : List Value} (h : w.ownsRow base e 1 v n xs) : ∃ ad cap, v = .slice ad n cap := by
  rcases own_form h with ⟨e1, e2⟩ | ⟨g, cap, e1, _⟩
  · exact ⟨none, 0, by rw [e1, e2]⟩
  · exact ⟨_, cap, e1⟩
theorem bs1P (W : World) (q : Nat) : (Instr.buildSlice 52 1 #[(0, .pointer (some ⟨q, 0, none⟩))]).run Tryz.prog W = .ok (.slice (some ⟨W.heap.size, 0, none⟩) 1 1) (W.alloc (.cells #[.pointer (some ⟨q, 0, none⟩)] 104)) := by go_simp
theorem ins_get {α : Type} {ps : List Nat} {l : List α} {q : Nat} {x : α} {to : Nat} (hlen : ps.length = l.length) (hto : to ≤ l.length) {P : Nat → α → Prop} (h : ∀ (k q : Nat) (x : α), ps[k]? = some q → l[k]? = some x → P q x) (hx : P q x) : ∀ (k q' : Nat) (x' : α), (ps.take to ++ q :: ps.drop to)[k]? = some q' → (l.take to ++ x :: l.drop to)[k]? = some x' → P q' x' := by
  intro k q' x' h1 h2
  have e1 : (ps.take to).length = to := by simp; omega
  have e2 : (l.take to).length = to := by simp; omega
  rcases Nat.lt_trichotomy k to with hk | hk | hk
  · rw [List.getElem?_append_left (by omega), List.getElem?_take_of_lt hk] at h1 h2
    exact h k q' x' h1 h2
  · subst hk
    rw [List.getElem?_append_right (by omega), e1, Nat.sub_self] at h1
    rw [List.getElem?_append_right (by omega), e2, Nat.sub_self] at h2
    simp at h1 h2
    subst h1 h2
    exact hx
  · obtain ⟨j, rfl⟩ : ∃ j, k = to + (j + 1) := ⟨k - to - 1, by omega⟩
    rw [List.getElem?_append_right (by omega), e1, Nat.add_sub_cancel_left, List.getElem?_cons_succ, List.getElem?_drop] at h1
    rw [List.getElem?_append_right (by omega), e2, Nat.add_sub_cancel_left, List.getElem?_cons_succ, List.getElem?_drop] at h2
    exact h _ q' x' h1 h2
theorem own_some {w : World} {base : Nat} {e : TypeId} {v : Value} {n : Nat} {xs : List Value} (h : w.ownsRow base e 1 v n xs) (hn : 0 < n) : ∃ g c, v = .slice (some ⟨g, 0, none⟩) n c ∧ base ≤ g := by
  rcases own_form h with ⟨_, e2⟩ | ⟨g, c, e1, e2, _⟩
  · omega
  · exact ⟨g, c, e1, e2⟩
theorem one_cons (q : Nat) (l : List Nat) : ∀ y ∈ ([.pointer (some ⟨q, 0, none⟩)] ++ cP l : List Value), y.oneCell' = true := fun y hy => by
  rcases List.mem_append.1 hy with k | k
  · simp at k
    subst k
    rfl
  · exact cP_one _ y k
theorem own_src {w : World} {base g n c : Nat} {e : TypeId} {xs : List Value} (h : w.ownsRow base e 1 (.slice (some ⟨g, 0, none⟩) n c) n xs) : ∀ j y, xs[j]? = some y → w.cell? ((⟨g, 0, none⟩ : Addr).add j) = some y := fun j y hj => by
  rw [add_pl, Nat.zero_add]
  have h1 := (List.getElem?_eq_some_iff.1 hj).1
  rw [h.1] at h1
  exact (h.cellAt j (by omega)).trans hj
theorem sl_from (g n cap to : Nat) (h : to ≤ n) (hc : n ≤ cap) : ∃ k, (∀ w, (Instr.sliceAt 52 (.slice (some ⟨g, 0, none⟩) n cap) (some (.int .i64 (to : Int))) none none).run Tryz.prog w = .ok (.slice (some ⟨g, k, none⟩) (n - to) (cap - to)) w) ∧ (to < cap → k = to) := by
  have h1 : (to : Int) ≤ (n : Int) := by omega
  have h2 : (n : Int) ≤ (cap : Int) := by omega
  have h3 : (to : Int) ≤ (cap : Int) := by omega
  by_cases hk : to < cap
  · have hk2 : ¬ cap - to = 0 := by omega
    have hk3 : ¬ cap ≤ to := by omega
    have hk4 : ¬ to = cap := by omega
    refine ⟨to, fun w => ?_, fun _ => rfl⟩
    go_simp
    intro
    omega
  · have hk2 : cap - to = 0 := by omega
    refine ⟨0, fun w => ?_, fun h => absurd h hk⟩
    go_simp
    intro
    omega
theorem sl_to (g n cap to : Nat) (h : to ≤ n) (hc : n ≤ cap) (w : World) : (Instr.sliceAt 52 (.slice (some ⟨g, 0, none⟩) n cap) none (some (.int .i64 (to : Int))) none).run Tryz.prog w = .ok (.slice (some ⟨g, 0, none⟩) to cap) w := by
  have h1 : (to : Int) ≤ (n : Int) := by omega
  have h2 : (n : Int) ≤ (cap : Int) := by omega
  have h3 : (to : Int) ≤ (cap : Int) := by omega
  go_simp
set_option maxHeartbeats 2000000 in
set_option maxRecDepth 100000 in
theorem putIn_any {σ : Nat → Prop} (h : Bg σ W base p ad cap room last ps l) (to q : Nat) (x : Gr) (hto : to ≤ l.length) (hx : GmAt σ W q x) (hr : (l.length : Int) + 1 ≤ room) : Calls Tryz.prog 86 #[.pointer (some ⟨p, 0, none⟩), .int .i64 (to : Int), .pointer (some ⟨q, 0, none⟩)] W fun e w' => e = .returned (.tuple #[]) ∧ ∃ ad' cap', Bg σ w' base p ad' cap' room last (ps.take to ++ q :: ps.drop to) (l.take to ++ x :: l.drop to) ∧ Tn p (ob ad) (ob ad') W w' := by
  obtain ⟨ic, hic, hz0, hz1, hz2⟩ := info_parts infoP
  have hmost := h.most
  have hlen := h.len
  have hgr := ins_get hlen hto h.gr hx
  have hlen' : (ps.take to ++ q :: ps.drop to).length = (l.take to ++ x :: l.drop to).length := by simp; omega
  have hle' : ((l.take to ++ x :: l.drop to).length : Int) ≤ room := by simp; omega
  have hcp : cP (ps.take to ++ q :: ps.drop to) = (cP ps).take to ++ ([.pointer (some ⟨q, 0, none⟩)] ++ cP (ps.drop to)) := by simp [cP, pt, List.map_take]
  have hn' : (ps.take to ++ q :: ps.drop to).length = to + (1 + (ps.length - to)) := by simp; omega
  have hp := h.plt
  have hbs := bs1P W q
  obtain ⟨W1, hW1⟩ : ∃ W1, W.alloc (.cells #[.pointer (some ⟨q, 0, none⟩)] 104) = W1 := ⟨_, rfl⟩
  have hb1 : Below W.heap.size W W1 := by rw [← hW1]; exact al1' W _
  have hz1' : W1.heap.size = W.heap.size + 1 := by rw [← hW1]; simp
  have hown : W1.ownsRow W.heap.size 104 1 (.slice (some ⟨W.heap.size, 0, none⟩) 1 1) 1 [.pointer (some ⟨q, 0, none⟩)] := by
    rw [← hW1]
    exact World.ownsRow_lit (base := W.heap.size) (e := 104) (size := 1) W #[.pointer (some ⟨q, 0, none⟩)] 1 (Nat.le_refl _) (by unfold maxLen; omega) (by simp)
  have hcn : ∀ j u, ([.pointer (some ⟨q, 0, none⟩)] : List Value)[j]? = some u → W1.cell? ((⟨W.heap.size, 0, none⟩ : Addr).add j) = some u := by rw [← hW1]; exact cell_one_new _ _ _
  rw [hW1] at hbs
  have h1 := h.carry hb1
  have c2 := h1.c2
  have hne := h.ne
  have hbase : base ≤ W.heap.size := by have := h.pb; omega
  have HL : Hid (ps.length = l.length) := hlen
  have HL' : Hid ((ps.take to ++ q :: ps.drop to).length = (l.take to ++ x :: l.drop to).length) := hlen'
  have HN : Hid ((ps.take to ++ q :: ps.drop to).length = to + (1 + (ps.length - to))) := hn'
  have HC : Hid (cP (ps.take to ++ q :: ps.drop to) = (cP ps).take to ++ ([.pointer (some ⟨q, 0, none⟩)] ++ cP (ps.drop to))) := hcp
  have htl : to ≤ ps.length := by omega
  clear hlen hlen' hn' hcp
  rcases own_form h.row with ⟨e1, e2⟩ | ⟨g, cap', e1, hbg, hgl, hgc, hgm, _⟩
  · simp only [Value.slice.injEq] at e1
    have hps : ps = [] := List.length_eq_zero_iff.1 e2
    subst hps
    have hto0 : to = 0 := by simpa using htl
    subst hto0
    obtain ⟨rfl, _, rfl⟩ := e1
    have hnil := World.ownsRow_nil W1 base 104 1
    have c2 : W1.cell? ⟨p, 2, none⟩ = some (.slice none 0 0) := c2
    go_enter Tryz.func86, Tryz.ntmps86
    go_wp2_with (first | (at_builtin; refine wpList_append_own_none rfl _ _ 52 rfl W.heap.size 104 ic 1 Tryz.underlying52 hic _ 1 _ rfl hown rfl ?_) | (at_builtin; refine wpList_append_own_at _ rfl _ _ 52 rfl base 104 ic _ 1 8 Tryz.underlying52 hic hz0 hz1 hz2 rfl (by decide) (.slice none 0 0) 0 [] rfl hnil ⟨W.heap.size, 0, none⟩ 1 1 [.pointer (some ⟨q, 0, none⟩)] rfl rfl hcn (by simp [Value.oneCell']) (by unfold maxLen; omega) (by omega) (by omega) ?_; intro v u ho0 hgu hnn hob; obtain ⟨ad', cap', rfl⟩ := row_slice ho0; have hpo := (hgu.block p h1.plt (by simp [Value.ownBlock])).trans h1.obj; have d2 := cell_at hpo 2; have z2 := thaw_at hpo 2; simp only [List.getElem?_toArray, List.getElem?_cons_zero, List.getElem?_cons_succ, List.length_nil] at d2))
    go_end0
    have ht := h1.turn (u2 := u) (ad' := ad') (cap' := cap') (ps' := [].take 0 ++ q :: [].drop 0) (l' := l.take 0 ++ x :: l.drop 0) (by simpa [ob, Value.ownBlock] using hgu) (by simpa [cP, pt] using ho0) (by rw [ob_eq] at hob; simpa [ob, Value.ownBlock] using hob) HL'.out (fun k q' x' k1 k2 => (hgr k q' x' k1 k2).carry hb1) hle'
    exact ⟨rfl, ad', ⟨cap', by simpa using ht.1⟩, (Tn.of p _ hb1).trans (by simpa using ht.2)⟩
  · simp only [Value.slice.injEq] at e1
    obtain ⟨rfl, _, rfl⟩ := e1
    have hnews0 := p_src h1.row to rfl
    have hr1 := h1.row
    have hpl := h.len
    have hgt : p ≠ g := fun e => hne (by rw [e]; rfl)
    have hbn : ps.length ≤ 65536 := by have := h.le; omega
    obtain ⟨n, hn⟩ : ∃ n, ps.length = n := ⟨_, rfl⟩
    have HNN : Hid (ps.length = n) := hn
    have hld : (cP (ps.drop to)).length = (n - to) * 1 := by rw [cP_len]; simp; omega
    have HLD : Hid ((cP (ps.drop to)).length = (n - to) * 1) := hld
    rw [hn] at c2 hgc hr1 htl hbn
    have hti : (to : Int) ≤ (n : Int) := by omega
    have hgi : (n : Int) ≤ (cap : Int) := by omega
    have hti2 : (to : Int) ≤ (cap : Int) := by omega
    obtain ⟨kk, hsl, hkk⟩ := sl_from g n cap to htl hgc
    have hnews : ∀ j u, (cP (ps.drop to))[j]? = some u → W1.cell? ((⟨g, kk, none⟩ : Addr).add j) = some u := fun j u hj => by
      have hj2 := (List.getElem?_eq_some_iff.1 hj).1
      rw [hld] at hj2
      rw [hkk (by omega)]
      exact hnews0 j u hj
    clear hn hld hpl hnews0 hkk
    go_enter Tryz.func86, Tryz.ntmps86
    go_wp2_with (first | (at_builtin; refine wpList_append_own_at _ rfl _ _ 52 rfl W.heap.size 104 ic _ 1 8 Tryz.underlying52 hic hz0 hz1 hz2 rfl (by decide) (.slice (some ⟨W.heap.size, 0, none⟩) 1 1) 1 [.pointer (some ⟨q, 0, none⟩)] rfl hown ⟨g, kk, none⟩ (n - to) (cap - to) (cP (ps.drop to)) rfl HLD.out hnews (cP_one _) (by unfold maxLen; omega) (by omega) (by omega) ?_; intro v u ho0 hgu hnn hob; obtain ⟨g1, c1, rfl, hv1⟩ := own_some ho0 (by omega); have hbu : Below W.heap.size W u := hb1.grown hgu (by omega) (fun k e => own_block hown k e); have h2 := h.carry hbu; have c3 := h2.c2; have hro := h2.row; rw [HNN.out] at c3 hro; have hro := row_take hro to htl; have hsrc := own_src ho0; have hl1 := ho0.1; have hone := one_cons q (ps.drop to); clear c2 hnews hown hW1 hbs hcn) | (at_builtin; refine wpList_append_own_at _ rfl _ _ 52 rfl base 104 ic _ 1 8 Tryz.underlying52 hic hz0 hz1 hz2 rfl (by decide) (.slice (some ⟨g, 0, none⟩) to cap) to ((cP ps).take to) rfl hro ⟨g1, 0, none⟩ (1 + (n - to)) c1 ([.pointer (some ⟨q, 0, none⟩)] ++ cP (ps.drop to)) rfl hl1 hsrc hone (by unfold maxLen; omega) (by omega) (by have := hbu.size; omega) ?_; intro v u2 ho2 hgu2 hnn2 hob2; obtain ⟨ad', cap', rfl⟩ := row_slice ho2; have hpo := (hgu2.block p h2.plt (by simpa [Value.ownBlock] using hgt)).trans h2.obj; have d2 := cell_at hpo 2; have z2 := thaw_at hpo 2; simp only [List.getElem?_toArray, List.getElem?_cons_zero, List.getElem?_cons_succ] at d2))
    go_end0
    have ht := h2.turn (u2 := u2) (ad' := ad') (cap' := cap') (ps' := ps.take to ++ q :: ps.drop to) (l' := l.take to ++ x :: l.drop to) hgu2 (by rw [HC.out, HN.out, HNN.out]; exact ho2) (by rw [ob_eq] at hob2; exact hob2) HL'.out (fun k q' x' k1 k2 => (hgr k q' x' k1 k2).carry hbu) hle'
    rw [HN.out, HNN.out] at ht
    exact ⟨rfl, ad', cap', ht.1, (Tn.of p _ hbu).trans ht.2⟩
theorem del_get {α : Type} {ps : List Nat} {l : List α} {i : Nat} (hlen : ps.length = l.length) (hi : i < l.length) {P : Nat → α → Prop} (h : ∀ (k q : Nat) (x : α), ps[k]? = some q → l[k]? = some x → P q x) : ∀ (k q' : Nat) (x' : α), (ps.take i ++ ps.drop (i + 1))[k]? = some q' → (l.take i ++ l.drop (i + 1))[k]? = some x' → P q' x' := by
  intro k q' x' h1 h2
  have e1 : (ps.take i).length = i := by simp; omega
  have e2 : (l.take i).length = i := by simp; omega
  by_cases hk : k < i
  · rw [List.getElem?_append_left (by omega), List.getElem?_take_of_lt hk] at h1 h2
    exact h k q' x' h1 h2
  · rw [List.getElem?_append_right (by omega), e1, List.getElem?_drop] at h1
    rw [List.getElem?_append_right (by omega), e2, List.getElem?_drop] at h2
    exact h _ q' x' h1 h2
section
variable {G : Type} {P : Program} {md : Region.Mode} {ops : Array Oper} {Q : Exit → Act → World → Prop} {X0 : Array Value} {val : G → Nat → Value} {J : G → (Nat → Bool) → World → Prop} {i : Nat} {o : Oper}
theorem stepG_append (hi : ops[i]? = some o) (hg : o.guard = none) (t : TypeId) (x y : Operand) (vx vy : G → Value) (ho : o.op = .call { callee := .builtin .append, args := #[x, y], argTypes := #[t, t] }) (hx : ∀ g, rdo md ops X0 (val g) i o x = some (vx g)) (hy : ∀ g, rdo md ops X0 (val g) i o y = some (vy g))
    (h : ∀ g d w, J g d w → d i = false → (∀ j, bindsOn md o j = true → d j = true) → (∀ j oj, ops[j]? = some oj → d j = true → ∀ k, bindsOn md oj k = true → d k = true) → ∃ g' w', (Builtin.append_ #[t, t] o.type #[vx g, vy g]).run P w = .ok (val g' i) w' ∧ (∀ j, d j = true → val g' j = val g j) ∧ J g' (fun j => if j = i then true else d j) w') : StepG P md ops Q X0 val J i o := by
  intro g d a w hJ hun hdep hcl hS
  have hS' : Seen md ops X0 (val g) i o a := hS
  obtain ⟨g', w', h1, h2, h3⟩ := h g d w hJ hun hdep hcl
  unfold wpOp
  rw [hi]
  simp only [Region.wanted, hg, if_true]
  refine .inl ?_
  unfold Oper.wp execOp
  simp only [ho, resolve, invoke, builtin, List.map_toArray, List.map_cons, List.map_nil, hS'.eval (hx g), hS'.eval (hy g), Sem.run_bind, h1, Result.andThen_ok, Sem.run_pure, Oper.upon_value]
  exact ⟨g', h2, rfl, h3⟩
theorem stepG_store (hi : ops[i]? = some o) (hg : o.guard = none) (hd : o.dst = none) (t : TypeId) (x y : Operand) (vx vy : G → Value) (ho : o.op = .store t x y) (hx : ∀ g, rdo md ops X0 (val g) i o x = some (vx g)) (hy : ∀ g, rdo md ops X0 (val g) i o y = some (vy g))
    (h : ∀ g d w, J g d w → d i = false → (∀ j, bindsOn md o j = true → d j = true) → ∃ w', (Instr.storeAt t (vx g) (vy g)).run P w = .ok () w' ∧ J g (fun j => if j = i then true else d j) w') : StepG P md ops Q X0 val J i o := by
  intro g d a w hJ hun hdep hcl hS
  have hS' : Seen md ops X0 (val g) i o a := hS
  obtain ⟨w', h1, h3⟩ := h g d w hJ hun hdep
  unfold wpOp
  rw [hi]
  simp only [Region.wanted, hg, if_true]
  refine .inl ?_
  unfold Oper.wp execOp
  simp only [ho, hS'.eval (hx g), hS'.eval (hy g), Sem.run_bind, h1, Result.andThen_ok, Sem.run_pure, Oper.upon_skip]
  exact ⟨g, fun _ _ => rfl, by rw [hd]; rfl, h3⟩
end
/-- What holds while a datagram is taken off the list. -/
def JTo (σ : Nat → Prop) (w : World) (base p gb cap : Nat) (room last : Int) (ps : List Nat) (l : List Gr) (ps' : List Nat) (l' : List Gr) (d8 d11 : Bool) (W : World) : Prop :=
  match d8, d11 with
  | false, _ => Bg σ W base p (some ⟨gb, 0, none⟩) cap room last ps l ∧ Below w.heap.size w W
  | true, false => ∃ U, Bg σ U base p (some ⟨gb, 0, none⟩) cap room last ps l ∧ Below w.heap.size w U ∧ U.grownBy W (some gb) ∧ W.ownsRow base 104 1 (.slice (some ⟨gb, 0, none⟩) ps'.length cap) ps'.length (cP ps')
  | true, true => Bg σ W base p (some ⟨gb, 0, none⟩) cap room last ps' l' ∧ Tn p (some gb) (some gb) w W
/-- An append within the room behind the row. -/
theorem append_in {P : Program} (w : World) (base : Nat) (t ty e : TypeId) (i : TypeInfo) (ht : P.underlying t = some (.slice e)) (hi : P.info? e = some i) (hsize : i.size = 1) (g n cap : Nat) (xs : List Value) (hown : w.ownsRow base e 1 (.slice (some ⟨g, 0, none⟩) n cap) n xs)
    (a : Addr) (m c : Nat) (news : List Value) (hl : news.length = m * 1) (hnews : ∀ j u, news[j]? = some u → w.cell? (a.add j) = some u) (h1 : ∀ u ∈ news, u.oneCell' = true) (hroom : n + m ≤ cap) :
    ∃ w', (Builtin.append_ #[t, t] ty #[.slice (some ⟨g, 0, none⟩) n cap, .slice (some a) m c]).run P w = .ok (.slice (some ⟨g, 0, none⟩) (n + m) cap) w' ∧ w'.ownsRow base e 1 (.slice (some ⟨g, 0, none⟩) (n + m) cap) (n + m) (xs ++ news) ∧ w.grownBy w' (some g) := by
  have hlen : (xs ++ news).length = (n + m) * 1 := by rw [List.length_append, hown.1, hl, Nat.add_mul]
  rcases hown.2 with ⟨h, _⟩ | ⟨g', cap', cur, h, hbg, hg, hnc, hcm, hcs, htake⟩
  · cases h
  · cases h
    have hfit : n * i.size + news.length ≤ cur.size := by rw [hl, hcs, hsize, ← Nat.add_mul]; exact Nat.mul_le_mul_right _ hroom
    have hr := run_append_room (P := P) w t ty e i ht hi g n cap cur hg a m c news (by rw [hsize]; exact hl) hnews h1 hroom hfit
    refine ⟨_, hr, ⟨hlen, .inr ⟨g, cap, _, rfl, hbg, setRow_heap w g cur _ e _ hg, hroom, hcm, ?_, ?_⟩⟩, ⟨rfl, rfl, rfl, by simp, fun k _ hk => setRow_other w g k _ (fun e => hk (by rw [e]))⟩⟩
    · rw [hsize] at hfit ⊢
      simp only [List.size_toArray, List.length_append, List.length_take, List.length_drop, Array.length_toList]
      omega
    · rw [hsize, htake, ← hlen]
      exact List.take_left
theorem idx_p (g n cap k : Nat) (h : k < n) (w : World) : (Instr.indexAt 52 (.slice (some ⟨g, 0, none⟩) n cap) (.int .i64 (k : Int))).run Tryz.prog w = .ok (.pointer (some ⟨g, k, none⟩)) w := by
  have h1 : (k : Int) < (n : Int) := by omega
  go_simp
theorem load_p {V : World} {B j q : Nat} (h : V.cell? ⟨B, j, none⟩ = some (pt q)) : (Instr.loadAt 104 (.pointer (some ⟨B, j, none⟩))).run Tryz.prog V = .ok (.pointer (some ⟨q, 0, none⟩)) V := by
  unfold pt at h
  go_simp
theorem Bg.at {σ : Nat → Prop} {g : Nat} (h : Bg σ W base p (some ⟨g, 0, none⟩) cap room last ps l) {k q : Nat} (hk : ps[k]? = some q) : W.cell? ⟨g, k, none⟩ = some (pt q) := by
  have h1 := (List.getElem?_eq_some_iff.1 hk).1
  exact (h.row.cellAt k (by omega)).trans (cP_get hk)
theorem Bg.behind {σ : Nat → Prop} {g j : Nat} (h : Bg σ W base p (some ⟨g, 0, none⟩) cap room last ps l) (hj : ps.length ≤ j) (u : Value) : Bg σ (W.setCell ⟨g, j, none⟩ u) base p (some ⟨g, 0, none⟩) cap room last ps l ∧ Tn p (some g) (some g) W (W.setCell ⟨g, j, none⟩ u) := by
  have ht : Tn p (some g) (some g) W (W.setCell ⟨g, j, none⟩ u) := ⟨rfl, rfl, rfl, by simp, fun k _ _ h2 => Below.heap_setCell _ _ _ _ (fun e => h2 (congrArg some e)), .inl rfl⟩
  refine ⟨⟨h.pb, (Below.heap_setCell W ⟨g, j, none⟩ u p (fun e => h.ne (congrArg some e.symm))).trans h.obj, row_behind h.row hj u, h.len, fun k q x h1 h2 => (h.gr k q x h1 h2).tn h ht, h.le, h.most, fun b q => Nat.lt_of_lt_of_le (h.sg b q) ht.size⟩, ht⟩
theorem store_ps {V : World} {B j : Nat} {v : Value} {a : Option Addr} {n c : Nat} (h : V.cell? ⟨B, j, none⟩ = some v) (z : V.frozen? ⟨B, j, none⟩ = false) : (Instr.storeAt 52 (.pointer (some ⟨B, j, none⟩)) (.slice a n c)).run Tryz.prog V = .ok () (V.setCell ⟨B, j, none⟩ (.slice a n c)) := by go_simp
set_option maxHeartbeats 2000000 in
set_option maxRecDepth 100000 in
theorem takeOut_any {σ : Nat → Prop} {w : World} (h : Bg σ w base p ad cap room last ps l) (ix q : Nat) (hi : ps[ix]? = some q) : Calls Tryz.prog 85 #[.pointer (some ⟨p, 0, none⟩), .int .i64 (ix : Int)] w fun e w' => e = .returned (.pointer (some ⟨q, 0, none⟩)) ∧ ∃ ad' cap', Bg σ w' base p ad' cap' room last (ps.take ix ++ ps.drop (ix + 1)) (l.take ix ++ l.drop (ix + 1)) ∧ Tn p (ob ad) (ob ad') w w' := by
  have hmx : Tryz.prog.follows .mixedOrders = true := by kernel_rfl
  obtain ⟨ic, hic, hz0, hz1, hz2⟩ := info_parts infoP
  have hmost := h.most
  have hilt : ix < ps.length := (List.getElem?_eq_some_iff.1 hi).1
  have hgr := del_get h.len (by rw [← h.len]; exact hilt) h.gr
  obtain ⟨gb, cap', e1, hbg⟩ := own_some h.row (by omega)
  simp only [Value.slice.injEq] at e1
  obtain ⟨rfl, _, rfl⟩ := e1
  have hcap : ps.length ≤ cap := by
    rcases own_form h.row with ⟨e1, _⟩ | ⟨g1, c1, e1, _, _, h3, _⟩
    · cases e1
    · cases e1
      exact h3
  have hcm : ps.length ≤ 65536 := by have := h.le; have := h.len; omega
  have hlen' : (ps.take ix ++ ps.drop (ix + 1)).length = (l.take ix ++ l.drop (ix + 1)).length := by have := h.len; simp; omega
  have hn' : (ps.take ix ++ ps.drop (ix + 1)).length = ix + (ps.length - (ix + 1)) := by simp; omega
  have hle' : ((l.take ix ++ l.drop (ix + 1)).length : Int) ≤ room := by rw [← hlen', hn']; have := h.le; have := h.len; omega
  have hcp : cP (ps.take ix ++ ps.drop (ix + 1)) = (cP ps).take ix ++ cP (ps.drop (ix + 1)) := by simp [cP, List.map_take]
  have hne := h.ne
  obtain ⟨kk, hsl, hkk⟩ := sl_from gb ps.length cap (ix + 1) (by omega) hcap
  have hto := sl_to gb ps.length cap ix (by omega) hcap
  obtain ⟨ps', hps'⟩ : ∃ ps', ps.take ix ++ ps.drop (ix + 1) = ps' := ⟨_, rfl⟩
  obtain ⟨l', hl'⟩ : ∃ l', l.take ix ++ l.drop (ix + 1) = l' := ⟨_, rfl⟩
  rw [hps', hl'] at hgr hlen'
  rw [hps'] at hn' hcp
  rw [hl'] at hle'
  rw [hps', hl']
  clear hps' hl'
  have app : ∀ {d : Nat → Bool} (V : World), JTo σ w base p gb cap room last ps l ps' l' (d 8) (d 11) V → d 8 = false → d 11 = false → ∃ (g' : Unit) (w' : World), (Builtin.append_ #[52, 52] 52 #[.slice (some ⟨gb, 0, none⟩) ix cap, .slice (some ⟨gb, kk, none⟩) (ps.length - (ix + 1)) (cap - (ix + 1))]).run Tryz.prog V = .ok (.slice (some ⟨gb, 0, none⟩) ps'.length cap) w' ∧ (∀ (f : Nat → Value) j, d j = true → f j = f j) ∧ JTo σ w base p gb cap room last ps l ps' l' true (d 11) w' := by
    intro d V hJ h8 h11
    rw [h8] at hJ
    obtain ⟨hb, hbl⟩ := hJ
    have hnews0 := p_src hb.row (ix + 1) rfl
    have hnews : ∀ j u, (cP (ps.drop (ix + 1)))[j]? = some u → V.cell? ((⟨gb, kk, none⟩ : Addr).add j) = some u := fun j u hj => by
      have hj2 := (List.getElem?_eq_some_iff.1 hj).1
      rw [cP_len, List.length_drop] at hj2
      rw [hkk (by omega)]
      exact hnews0 j u hj
    obtain ⟨w', h1, h2, h3⟩ := append_in (P := Tryz.prog) V base 52 52 104 ic Tryz.underlying52 hic hz1 gb ix cap ((cP ps).take ix) (row_take hb.row ix (by omega)) ⟨gb, kk, none⟩ (ps.length - (ix + 1)) (cap - (ix + 1)) (cP (ps.drop (ix + 1))) (by rw [cP_len]; simp) hnews (cP_one _) (by omega)
    rw [← hn'] at h1 h2
    rw [← hcp] at h2
    rw [h11]
    exact ⟨(), w', h1, fun _ _ _ => rfl, V, hb, hbl, h3, h2⟩
  have sto : ∀ {d : Nat → Bool} (V : World), JTo σ w base p gb cap room last ps l ps' l' (d 8) (d 11) V → d 8 = true → d 11 = false → ∃ w', (Instr.storeAt 52 (.pointer (some ⟨p, 2, none⟩)) (.slice (some ⟨gb, 0, none⟩) ps'.length cap)).run Tryz.prog V = .ok () w' ∧ JTo σ w base p gb cap room last ps l ps' l' (d 8) true w' := by
    intro d V hJ h8 h11
    rw [h8, h11] at hJ
    obtain ⟨U, hU, hbl, hgu, hrow⟩ := hJ
    have hpo := (hgu.block p hU.plt (fun e => hU.ne e.symm)).trans hU.obj
    have ht := hU.turn (u2 := V) (ad' := some ⟨gb, 0, none⟩) (cap' := cap) (ps' := ps') (l' := l') hgu hrow (.inl rfl) hlen' (fun k q' x' k1 k2 => (hgr k q' x' k1 k2).carry hbl) hle'
    rw [h8]
    exact ⟨_, store_ps (cell_at hpo 2) (thaw_at hpo 2), ht.1, (Tn.of p _ hbl).trans ht.2⟩
  go_enter Tryz.func85, Tryz.ntmps85
  go_wp2
  rename_i Q0 K0 hK
  refine wp_region_any hmx ?_
  refine wpAny_pure (fun i__ => ([(.pointer (some ⟨p, 0, none⟩)), (.pointer (some ⟨p, 0, none⟩)), (.pointer (some ⟨p, 2, none⟩)), (.slice (some ⟨gb, 0, none⟩) ps.length cap), (.pointer (some ⟨p, 0, none⟩)), (.pointer (some ⟨p, 0, none⟩)), (.pointer (some ⟨p, 2, none⟩)), (.slice (some ⟨gb, 0, none⟩) ps.length cap), (.int .i64 (ix : Int)), (.pointer (some ⟨gb, ix, none⟩)), (.pointer (some ⟨q, 0, none⟩)), (.slice (some ⟨gb, 0, none⟩) ps.length cap), (.pointer (some ⟨q, 0, none⟩))] : List Value).getD i__ undef) (fun V => Bg σ V base p (some ⟨gb, 0, none⟩) cap room last ps l ∧ Below w.heap.size w V) (by kernel_rfl) ⟨h.carry (Below.refl _ _).drew, (Below.refl _ _).drew⟩ ?_ ?_
  · refine (stepsFrom_cons ?_ (stepsFrom_cons ?_ (stepsFrom_cons ?_ (stepsFrom_cons ?_ (stepsFrom_cons ?_ (stepsFrom_cons ?_ (stepsFrom_cons ?_ (stepsFrom_cons ?_ (stepsFrom_cons ?_ (stepsFrom_cons ?_ (stepsFrom_cons ?_ (stepsFrom_cons ?_ (stepsFrom_cons ?_ trivial)))))))))))))
    · exact step_move rfl trivial _ rfl (by kernel_rfl)
    · exact step_nilCheck rfl trivial _ _ _ rfl rfl rfl
    · exact step_fieldAddr rfl trivial _ _ _ _ rfl rfl (fun v hw => field_b2 v _)
    · exact step_load rfl trivial _ _ _ rfl rfl (fun v hw => load_ps hw.1.c2)
    · exact step_move rfl trivial _ rfl (by kernel_rfl)
    · exact step_nilCheck rfl trivial _ _ _ rfl rfl rfl
    · exact step_fieldAddr rfl trivial _ _ _ _ rfl rfl (fun v hw => field_b2 v _)
    · exact step_load rfl trivial _ _ _ rfl rfl (fun v hw => load_ps hw.1.c2)
    · exact step_move rfl trivial _ rfl (by kernel_rfl)
    · exact step_indexAddr rfl trivial _ _ _ _ _ rfl rfl rfl (fun v hw => idx_p gb ps.length cap ix hilt v)
    · exact step_load rfl trivial _ _ _ rfl rfl (fun v hw => load_p (hw.1.at hi))
    · exact step_assign rfl trivial _ rfl (by kernel_rfl) (fun _ h => h)
    · exact step_assign rfl trivial _ rfl (by kernel_rfl) (fun _ h => h)
  intro W hW
  first | refine hK _ _ ?_ | refine (‹∀ (a : Act) (w : World), Code.wp Tryz.prog _ _ a w → _›) _ _ ?_ | skip
  simp only [finL, List.getD_cons_zero, List.getD_cons_succ, Nat.zero_add, Nat.reduceAdd, List.setIfInBounds_toArray, List.set_cons_zero, List.set_cons_succ]
  clear hK
  go_wp2
  rename_i Q1 K1 hK
  refine wp_region_any hmx ?_
  refine wpAny_tabG (G := (Unit)) (fun g i__ => ([(.pointer (some ⟨p, 0, none⟩)), (.slice (some ⟨gb, 0, none⟩) ps.length cap), (.int .i64 (ix : Int)), (.slice (some ⟨gb, 0, none⟩) ix cap), (.slice (some ⟨gb, 0, none⟩) ps.length cap), (.int .i64 (ix : Int)), (.int .i64 ((ix : Int) + 1)), (.slice (some ⟨gb, kk, none⟩) (ps.length - (ix + 1)) (cap - (ix + 1))), (.slice (some ⟨gb, 0, none⟩) ps'.length cap), (.pointer (some ⟨p, 0, none⟩)), (.pointer (some ⟨p, 2, none⟩)), undef] : List Value).getD i__ undef) (fun g d V => JTo σ w base p gb cap room last ps l ps' l' (d 8) (d 11) V) (by kernel_rfl) (()) ⟨hW.1.carry (Below.refl _ _).drew, bel2 hW.2 (Below.refl _ _).drew⟩ ?step5 ?fin5
  case step5 =>
    intro i o ho
    have hi : i < 12 := getElem?_lt ho
    match i, hi, ho with
    | 0, _, ho =>
      cases ho
      refine stepG_of (fun g d hdep => ?_)
      exact step_move rfl trivial _ rfl (by kernel_rfl)
    | 1, _, ho =>
      cases ho
      refine stepG_of (fun g d hdep => ?_)
      exact step_move rfl trivial _ rfl (by kernel_rfl)
    | 2, _, ho =>
      cases ho
      refine stepG_of (fun g d hdep => ?_)
      exact step_move rfl trivial _ rfl (by kernel_rfl)
    | 3, _, ho =>
      cases ho
      refine stepG_of (fun g d hdep => ?_)
      exact step_slice rfl trivial _ _ _ _ _ none (some (.int .i64 (ix : Int))) rfl rfl rfl rfl (fun v hw => hto v)
    | 4, _, ho =>
      cases ho
      refine stepG_of (fun g d hdep => ?_)
      exact step_move rfl trivial _ rfl (by kernel_rfl)
    | 5, _, ho =>
      cases ho
      refine stepG_of (fun g d hdep => ?_)
      exact step_move rfl trivial _ rfl (by kernel_rfl)
    | 6, _, ho =>
      cases ho
      refine stepG_of (fun g d hdep => ?_)
      exact step_binOp rfl trivial _ _ _ _ _ _ _ rfl rfl rfl (fun v hw => bin_add64 _ _ _ (i64_id _ (by omega) (by omega)))
    | 7, _, ho =>
      cases ho
      refine stepG_of (fun g d hdep => ?_)
      exact step_slice rfl trivial _ _ _ _ _ (some (.int .i64 ((ix : Int) + 1))) none rfl rfl rfl rfl (fun v hw => hsl v)
    | 8, _, ho =>
      cases ho
      exact stepG_append rfl rfl _ _ _ (fun _ => .slice (some ⟨gb, 0, none⟩) ix cap) (fun _ => .slice (some ⟨gb, kk, none⟩) (ps.length - (ix + 1)) (cap - (ix + 1))) rfl (fun g => rfl) (fun g => rfl) (fun g d V hJ hun hdep hcl => by obtain ⟨g', w', a1, a2, a3⟩ := app V hJ hun (by cases h : d 11 with | false => rfl | true => exact absurd (hcl 11 _ rfl h 8 (by kernel_rfl)) (by rw [hun]; simp)); exact ⟨g', w', a1, fun _ _ => rfl, a3⟩)
    | 9, _, ho =>
      cases ho
      refine stepG_of (fun g d hdep => ?_)
      exact step_nilCheck rfl trivial _ _ _ rfl rfl rfl
    | 10, _, ho =>
      cases ho
      refine stepG_of (fun g d hdep => ?_)
      exact step_fieldAddr rfl trivial _ _ _ _ rfl rfl (fun v hw => field_b2 v _)
    | 11, _, ho =>
      cases ho
      exact stepG_store rfl rfl rfl _ _ _ (fun _ => .pointer (some ⟨p, 2, none⟩)) (fun g => .slice (some ⟨gb, 0, none⟩) ps'.length cap) rfl (fun g => rfl) (fun g => rfl) (fun g d V hJ hun hdep => sto V hJ (hdep 8 (by kernel_rfl)) hun)
  intro g d W hall hW
  first | refine hK _ _ ?_ | refine (‹∀ (a : Act) (w : World), Code.wp Tryz.prog _ _ a w → _›) _ _ ?_ | skip
  simp only [finL, List.getD_cons_zero, List.getD_cons_succ, Nat.zero_add, Nat.reduceAdd, List.setIfInBounds_toArray, List.set_cons_zero, List.set_cons_succ]
  have hJ : JTo σ w base p gb cap room last ps l ps' l' (d 8) (d 11) W := hW
  rw [hall 8 (by decide), hall 11 (by decide)] at hJ
  obtain ⟨hB, hT⟩ := hJ
  clear hW hK app sto hsl hto hkk hgr
  obtain ⟨y, hy, hz⟩ : ∃ y, W.cell? ⟨gb, ps.length - 1, none⟩ = some y ∧ W.frozen? ⟨gb, ps.length - 1, none⟩ = false := by
    rcases hB.row.2 with ⟨e1, _⟩ | ⟨g1, c1, cur, e1, _, h3, _, _, h6, _⟩
    · cases e1
    · cases e1
      refine ⟨cur[ps.length - 1]'(by omega), ?_, thaw_at h3 _⟩
      rw [cell_at h3]
      exact Array.getElem?_eq_getElem _
  obtain ⟨n, hn⟩ : ∃ n, ps.length = n + 1 := ⟨ps.length - 1, by omega⟩
  rw [hn] at hy hz
  have HN : Hid (ps.length = n + 1) := hn
  simp only [Nat.add_sub_cancel] at hy hz
  have hni : (0 : Int) ≤ (n : Int) := by omega
  have hfin := hB.behind (j := n) (by rw [hn', hn]; omega) (.pointer none)
  rw [hn] at hcm ⊢
  clear hn hlen' hn' hle' hcp
  go_wp2
  go_ret
  exact ⟨rfl, some ⟨gb, 0, none⟩, cap, hfin.1, hT.trans hfin.2⟩
end
end Go.Proofs.YtjfbnikbmadgkaaGreat
