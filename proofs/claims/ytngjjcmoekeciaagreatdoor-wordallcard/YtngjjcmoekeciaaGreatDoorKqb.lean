/- Lists that are kept, some of them pieces: while they are grown. -/
import Derived.Test.YtngjjcmoekeciaaGreatDoorKqa
namespace Go.Proofs.YtngjjcmoekeciaaGreatDoor.Kel
open Go.RowKit Go.Shelf Go.Lib
set_option linter.unusedVariables false

theorem wpList_append_pq {P : Program} (w : World) {ops : Array Oper} {rest : List Oper} {o : Oper} {a : Act} {Q : Exit → Act → World → Prop}
    (hg : o.guard = none) (s x : Operand) (t : TypeId) (hop : o.op = Op.call { callee := Callee.builtin Builtin.append, args := #[s, x], argTypes := #[t, t] })
    (base : Nat) (e : TypeId) (i : TypeInfo) (z : Value) (size bytes : Nat) (h1 : P.underlying t = some (.slice e)) (h2 : P.info? e = some i) (h3 : i.zero = some z) (h4 : i.size = size) (h5 : i.bytes = bytes) (h6 : z.cells.size = size) (h7 : 0 < size)
    (v : Value) (n : Nat) (xs : List Value) (hs : a.eval s = v) (hown : Pq base e size v n xs w)
    (ad : Addr) (m c : Nat) (news : List Value) (hx : a.eval x = .slice (some ad) m c) (hn : news.length = m * size) (hc : ∀ j u, news[j]? = some u → w.cell? (ad.add j) = some u) (h1c : ∀ u ∈ news, u.oneCell' = true)
    (hm0 : 0 < m) (b1 : n + m ≤ maxLen) (b2 : (n + m) * bytes ≤ 140737488355328) (hbase : base ≤ w.heap.size)
    (hK : ∀ v' w', w'.ownsRow base e size v' (n + m) (xs ++ news) → ((∃ g cap, v = .slice (some ⟨g, 0, none⟩) n cap ∧ v' = .slice (some ⟨g, 0, none⟩) (n + m) cap ∧ w.ownsRow base e size v n xs ∧ w.grownBy w' (some g)) ∨ (w'.ownsRow w.heap.size e size v' (n + m) (xs ++ news) ∧ w.grownBy w' none)) → wpList P ops Q rest (a.put o.dst v') w') :
    wpList P ops Q (o :: rest) a w := by
  rcases hown with hown | ⟨g, off, ev, hA⟩
  · exact wpList_append_two w hg s x t hop base e i z size bytes h1 h2 h3 h4 h5 h6 h7 v n xs hs hown ad m c news hx hn hc h1c hm0 b1 b2 hbase (fun v' w' q1 q2 => hK v' w' q1 (q2.imp_left fun ⟨g, cap, e1, e2, e3⟩ => ⟨g, cap, e1, e2, hown, e3⟩))
  · subst ev
    exact wpList_append_grows w hg s x t hop e i z size bytes h1 h2 h3 h4 h5 h6 h7 (some ⟨g, off, none⟩) n n xs hs (fun q => by cases q) hA.ln (fun b hb j u hj => by
      obtain rfl := Option.some.inj hb
      exact hA.fa.src j u hj) ad m c news hx hn hc h1c (by omega) b1 b2 (fun v' w' q1 q2 => hK v' w' (row_base q1 hbase) (.inr ⟨q1, q2⟩))
section
variable {α : Type} {mk : Nat → Nat → α} {c : α → List Value} {s : Nat} {T TT TTT TB : TypeId} {by_ base bb : Nat} {W V : World} {u v : Value} {x y : List Value} {L : List (List α)}
/-- The lists that were grown. -/
def Gkq (mk : Nat → Nat → α) (c : α → List Value) (s : Nat) (T : TypeId) (base s0 : Nat) (x : List Value) (W : World) (O : List Value) : Prop := ∀ (i : Nat) (z' : Value), O[i]? = some z' → ∃ n, W.ownsRow base T s z' n (fc c (mkL mk i 0 n)) ∧ n ≤ 1001000 ∧ ((∃ g N cap, x[i]? = some (.slice (some ⟨g, 0, none⟩) N cap) ∧ z' = .slice (some ⟨g, 0, none⟩) n cap ∧ 0 < cap) ∨ ∀ b, z'.ownBlock = some b → s0 ≤ b)
theorem Gkq.gkn {s0 : Nat} {O : List Value} (h : Gkq mk c s T base s0 x W O) : Gkn mk c s T base s0 x W O := fun i z hz => by
  obtain ⟨n, h1, h2, h3⟩ := h i z hz
  refine ⟨n, h1, h2, h3.imp_left fun ⟨g, N, cap, e1, e2, _⟩ => ⟨_, e1, by rw [e2]; rfl⟩⟩
theorem Gkq.off {s0 : Nat} {O : List Value} (h : Gkq mk c s T base s0 x W O) {ob : Option Nat} (hg : W.grownBy V ob) (hO : ∀ b, ob = some b → ∀ (i : Nat) (z : Value), O[i]? = some z → z.ownBlock ≠ some b) : Gkq mk c s T base s0 x V O := fun i z hz => by
  obtain ⟨n, h1, h2, h3⟩ := h i z hz
  exact ⟨n, row_off h1 hg (fun b e => hO b e i z hz), h2, h3⟩
/-- While one list is grown. -/
structure Gsq (mk : Nat → Nat → α) (c : α → List Value) (s : Nat) (T TT : TypeId) (base s0 sz N k : Nat) (u z uo : Value) (x O : List Value) (L : List (List α)) (w W : World) (a : Value) (M : Nat) : Prop where
  row : Pq base T s a M (fc c (mkL mk k 0 M)) W
  rel : (∃ g cap, z = .slice (some ⟨g, 0, none⟩) N cap ∧ a = .slice (some ⟨g, 0, none⟩) M cap ∧ W.ownsRow base T s a M (fc c (mkL mk k 0 M))) ∨ (a = z ∧ M = N) ∨ W.ownsRow sz T s a M (fc c (mkL mk k 0 M))
  kn : Kq c s T TT base W u x L
  gk : Gkq mk c s T base s0 x W O
  ro : W.ownsRow s0 TT 1 uo k O
  bl : Bx x w W
  sz : sz ≤ W.heap.size
  nm : N ≤ M
  w0 : w.heap.size ≤ s0
theorem Gsq.carry {s0 sz N k M : Nat} {z uo a : Value} {O : List Value} {w : World} (h : Gsq mk c s T TT base s0 sz N k u z uo x O L w W a M) (hb : Below W.heap.size W V) : Gsq mk c s T TT base s0 sz N k u z uo x O L w V a M :=
  ⟨h.row.carry hb, h.rel.imp (fun ⟨g, cap, e1, e2, e3⟩ => ⟨g, cap, e1, e2, row_below e3 hb⟩) (fun q => q.imp_right (fun q => row_below q hb)), h.kn.carry hb, fun i z hz => by
    obtain ⟨n, h1, h2, h3⟩ := h.gk i z hz
    exact ⟨n, row_below h1 hb, h2, h3⟩, row_below h.ro hb, h.bl.below hb, Nat.le_trans h.sz hb.size, h.nm, h.w0⟩
theorem Gsq.app (hs : ∀ a, (c a).length = s) (hs0 : 0 < s) (hI : T ≠ TT) {s0 sz N k M m : Nat} {z uo a v' : Value} {O : List Value} {w : World} (h : Gsq mk c s T TT base s0 sz N k u z uo x O L w W a M) (hc : Gc mk base s0 sz N k u z uo x O L) (hm : 0 < m) (hv : V.ownsRow base T s v' (M + m) (fc c (mkL mk k 0 M) ++ fc c (mkL mk k M m)))
    (h2 : (∃ g cap, a = .slice (some ⟨g, 0, none⟩) M cap ∧ v' = .slice (some ⟨g, 0, none⟩) (M + m) cap ∧ W.ownsRow base T s a M (fc c (mkL mk k 0 M)) ∧ W.grownBy V (some g)) ∨ (V.ownsRow W.heap.size T s v' (M + m) (fc c (mkL mk k 0 M) ++ fc c (mkL mk k M m)) ∧ W.grownBy V none)) : Gsq mk c s T TT base s0 sz N k u z uo x O L w V v' (M + m) := by
  have hsz := h.sz
  have hc0 := hc.b0
  have hc1 := hc.le
  have e3 := mkL_app (mk := mk) k 0 M m
  rw [Nat.zero_add] at e3
  have e4 : fc c (mkL mk k 0 M) ++ fc c (mkL mk k M m) = fc c (mkL mk k 0 (M + m)) := by rw [← fc_append, e3]
  rw [e4] at hv h2
  rcases h2 with ⟨g, cap, rfl, rfl, hao, hg⟩ | ⟨hf, hg⟩
  · obtain ⟨cur, hgc, hcsz, hMc, hbg, _⟩ := own_sz hao
    obtain ⟨cur', hgc', hcsz', hMc', _⟩ := own_sz hv
    have hro : V.ownsRow s0 TT 1 uo k O := row_off h.ro hg (fun b e => by obtain rfl := Option.some.inj e; exact row_type h.ro hgc hI)
    by_cases hin : ∃ N', z = .slice (some ⟨g, 0, none⟩) N' cap ∧ N' = N
    · obtain ⟨N', rfl, rfl⟩ := hin
      have hbl : Bx x w V := h.bl.grown hg (fun q e => by obtain rfl := Option.some.inj e; exact .inl (Px.no hc.xk rfl))
      have hg0 : g < s0 := hc.xl k _ g hc.xk rfl
      refine ⟨.inl hv, .inl ⟨g, cap, rfl, rfl, hv⟩, ?_, h.gk.off hg (fun b e i z' hz e2 => ?_), hro, hbl, Nat.le_trans h.sz hg.size, by have := h.nm; omega, h.w0⟩
      · have hp := own_prefix hv (show N' ≤ M + m by have := h.nm; omega)
        rw [fc_take hs, mkL_take _ _ _ (by have := h.nm; omega)] at hp
        have hpW := own_prefix hao h.nm
        have := h.kn.turn hI hc.lk hc.xk rfl (l' := mkL mk k 0 N') (.inl (by rw [mkL_len]; exact hp)) rfl (fun {n2 z2 cs2} q1 q2 => keep_own hs0 hpW hv hg (by omega) q1 q2) hg
        rw [set_same hc.lk] at this
        exact this
      · obtain rfl := Option.some.inj e
        obtain ⟨n, _, _, h5⟩ := h.gk i z' hz
        have hik : i < k := by rw [← hc.ok]; exact (List.getElem?_eq_some_iff.1 hz).1
        rcases h5 with ⟨g5, N5, cap5, h6, h7, h8⟩ | h5
        · subst h7
          cases e2
          have ha := h.kn.ap i k _ _ (by omega) h6 hc.xk
          have := ha g5 0 N5 cap5 0 N' cap rfl rfl
          have p1 : 0 < cap5 * s := Nat.mul_pos h8 hs0
          have p2 : 0 < cap * s := Nat.mul_pos (by omega) hs0
          omega
        · have := h5 g e2
          omega
    · have hq : W.ownsRow sz T s (.slice (some ⟨g, 0, none⟩) M cap) M (fc c (mkL mk k 0 M)) := by
        rcases h.rel with ⟨g', cap', ez, q, _⟩ | ⟨q1, q2⟩ | q
        · simp only [Value.slice.injEq, Option.some.injEq, Addr.mk.injEq] at q
          obtain ⟨⟨rfl, _⟩, _, rfl⟩ := q
          exact absurd ⟨N, ez, rfl⟩ hin
        · exact absurd ⟨M, q1.symm, q2⟩ hin
        · exact q
      have hgz : sz ≤ g := (rowBlk hq g rfl).1
      have k2 := h.w0
      have hbl : Bx x w V := h.bl.grown hg (fun q e => by obtain rfl := Option.some.inj e; exact .inr (by omega))
      refine ⟨.inl hv, .inr (.inr ?_), h.kn.off hg (fun b e e2 => ?_) (fun b e i z' hz e2 => ?_), h.gk.off hg (fun b e i z' hz e2 => ?_), hro, hbl, Nat.le_trans h.sz hg.size, by have := h.nm; omega, h.w0⟩
      · obtain ⟨q1, q2⟩ := hv
        refine ⟨q1, .inr ?_⟩
        rcases q2 with ⟨q3, _⟩ | ⟨g9, c9, cur9, q3, q4, q5⟩
        · cases q3
        · cases q3
          exact ⟨g, cap, cur9, rfl, hgz, q5⟩
      · obtain rfl := Option.some.inj e
        have := hc.ul _ e2
        omega
      · obtain rfl := Option.some.inj e
        have := hc.xl i z' _ hz e2
        omega
      · obtain rfl := Option.some.inj e
        have := hc.ol i z' _ hz e2
        omega
  · have hb : Below W.heap.size W V := ⟨hg.os, hg.tape, hg.output, hg.size, fun q hq => hg.block q hq (by simp)⟩
    have h9 := h.carry hb
    exact ⟨.inl hv, .inr (.inr (row_base hf h.sz)), h9.kn, h9.gk, h9.ro, h9.bl, h9.sz, by have := h.nm; omega, h.w0⟩
end
/-- What is kept, and the copies. -/
structure Kkq {α : Type} (c : α → List Value) (s : Nat) (T TT : TypeId) (base : Nat) (W : World) (u v : Value) (x y : List Value) (L : List (List α)) : Prop where
  kl : Kq c s T TT base W u x L
  cr : W.ownsRow base TT 1 v L.length y
  cs : ∀ (i : Nat) (l : List α), L[i]? = some l → ∃ z, y[i]? = some z ∧ W.ownsRow base T s z l.length (fc c l)
  uv : ∀ q, u.ownBlock = some q → v.ownBlock ≠ some q
section
variable {α : Type} {c : α → List Value} {s : Nat} {T TT TTT TB : TypeId} {by_ base bb : Nat} {W V : World} {u v : Value} {x y : List Value} {L : List (List α)} {C : Array Value}
theorem Kkq.cl (h : Kkq c s T TT base W u v x y L) : Cl c TT base W v y L := ⟨h.cr, fun i l hl => by
  obtain ⟨z, h1, h2⟩ := h.cs i l hl
  obtain ⟨ad, c', e, hr, _⟩ := own_rd h2
  exact ⟨ad, c', by rw [h1, e], hr⟩⟩
theorem Kkq.leny (h : Kkq c s T TT base W u v x y L) : y.length = L.length := by
  have := h.cr.1
  omega
theorem Kkq.nil : Kkq c s T TT base W (.slice none 0 0) (.slice none 0 0) [] [] ([] : List (List α)) :=
  ⟨⟨World.ownsRow_nil _ _ _ _, fun _ _ hl => (by cases hl), fun _ _ _ _ _ hz => (by cases hz), Nat.zero_le _⟩, World.ownsRow_nil _ _ _ _, fun _ _ hl => (by cases hl), fun _ hq => (by cases hq)⟩
theorem Kkq.move (h : Kkq c s T TT base W u v x y L) (e : ∀ (g : Nat) (cur : Array Value) (t : TypeId), base ≤ g → W.heap[g]? = some (.cells cur t (0, 0)) → (t = T ∨ (t = TT ∧ (u.ownBlock = some g ∨ v.ownBlock = some g))) → V.heap[g]? = W.heap[g]?) : Kkq c s T TT base V u v x y L :=
  ⟨h.kl.move (fun g hg => by
      obtain ⟨h0, cur, h1⟩ := rowBlk h.kl.row g hg
      exact e g cur TT h0 h1 (.inr ⟨rfl, .inl hg⟩)) (fun i z g hz hg => by
      obtain ⟨cur, h1⟩ := h.kl.tyx hz hg
      exact e g cur T (h.kl.ltx hz hg).1 h1 (.inl rfl)),
    row_at h.cr (fun g hg => by
      obtain ⟨h0, cur, h1⟩ := rowBlk h.cr g hg
      exact e g cur TT h0 h1 (.inr ⟨rfl, .inr hg⟩)),
    fun i l hl => by
      obtain ⟨z, h1, h2⟩ := h.cs i l hl
      refine ⟨z, h1, row_at h2 (fun g hg => ?_)⟩
      obtain ⟨h0, cur, h3⟩ := rowBlk h2 g hg
      exact e g cur T h0 h3 (.inl rfl), h.uv⟩
theorem Kkq.carry (h : Kkq c s T TT base W u v x y L) (hb : Below W.heap.size W V) : Kkq c s T TT base V u v x y L := h.move (fun g _ _ _ hg _ => hb.block g (lt_at hg))
/-- One more is kept. -/
theorem Kkq.app {u' v' z zc : Value} {l : List α} (h : Kkq c s T TT base W u v x y L) (hx : ∀ (g : Nat) (cur : Array Value), W.heap[g]? = some (.cells cur T (0, 0)) → V.heap[g]? = W.heap[g]?) (hz : Pq base T s z l.length (fc c l) V) (hc : V.ownsRow base T s zc l.length (fc c l)) (hl : l.length ≤ 1000000) (hk : L.length < 400) (hn : ∀ (i : Nat) (z' : Value), x[i]? = some z' → Az s z' z)
    (hu : V.ownsRow base TT 1 u' (L.length + 1) (x ++ [z])) (hv : V.ownsRow base TT 1 v' (L.length + 1) (y ++ [zc])) (huv : ∀ q, u'.ownBlock = some q → v'.ownBlock ≠ some q) : Kkq c s T TT base V u' v' (x ++ [z]) (y ++ [zc]) (L ++ [l]) := by
  have lx := h.kl.lenx
  have ly := h.leny
  refine ⟨⟨by rw [List.length_append]; exact hu, fun i l' hl' => ?_, fun i j z1 z2 hij hi hj => ?_, by rw [List.length_append]; simp; omega⟩, by rw [List.length_append]; exact hv, fun i l' hl' => ?_, huv⟩
  · rcases get_snoc _ _ _ _ hl' with ⟨q1, q2⟩ | ⟨q1, q2⟩
    · obtain ⟨z', k1, k2, k3⟩ := h.kl.ks i l' q2
      exact ⟨z', by rw [List.getElem?_append_left (by omega)]; exact k1, k2.at (fun g hg => by
        obtain ⟨cur, q⟩ := k2.ty g hg
        exact hx g cur q), k3⟩
    · subst q1
      subst q2
      exact ⟨z, by rw [← lx]; simp, hz, hl⟩
  · rcases get_snoc _ _ _ _ hi with ⟨a1, a2⟩ | ⟨a1, a2⟩ <;> rcases get_snoc _ _ _ _ hj with ⟨b1, b2⟩ | ⟨b1, b2⟩
    · exact h.kl.ap i j z1 z2 hij a2 b2
    · subst b2
      exact hn i z1 a2
    · subst a2
      exact (hn j z2 b2).symm
    · omega
  · rcases get_snoc _ _ _ _ hl' with ⟨q1, q2⟩ | ⟨q1, q2⟩
    · obtain ⟨z', k1, k2⟩ := h.cs i l' q2
      exact ⟨z', by rw [List.getElem?_append_left (by omega)]; exact k1, row_at k2 (fun g hg => by
        obtain ⟨_, cur, q⟩ := rowBlk k2 g hg
        exact hx g cur q)⟩
    · subst q1
      subst q2
      exact ⟨zc, by rw [← ly]; simp, hc⟩
end
/-- What is there behind it. -/
def Kepq {α : Type} (c : α → List Value) (s : Nat) (T TT TB : TypeId) (i0 base bb : Nat) (C : Array Value) (u v z : Value) (x : List Value) (w V : World) : Prop := ∃ u' v' x' y' L', Bb TB V bb (put2 C i0 u' v') ∧ Kkq c s T TT base V u' v' x' y' L' ∧ Fk bb u v w V ∧ ∀ (i : Nat) (z' : Value), x'[i]? = some z' → z' = z ∨ ∃ j : Nat, x[j]? = some z'
end Go.Proofs.YtngjjcmoekeciaaGreatDoor.Kel
