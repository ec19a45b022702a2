/- A book of bytes and datagrams: Bytes and Gram keep lists; the document's Move. -/
import Derived.Test.YtcgghhfnlobodaaGreatBhd
import Derived.Test.YtcgghhfnlobodaaGreatBhb
namespace Go.Proofs.YtcgghhfnlobodaaGreat
open Go.RowKit Go.Shelf Go.Lib

theorem rMove_any {w : World} {base lb o : Nat} {ad : Option Addr} {cap : Nat} {last most : Int} {l : List Gr} {av : List (Option Addr × Nat)} (h : Rg w base lb o ad cap last most l av) (i to : Int) (hbs : base ≤ w.heap.size) : Calls Tryz.prog 25 #[.pointer (some ⟨lb, o, none⟩), .int .i64 i, .int .i64 to] w fun e w' => e = .returned (.int .i64 (sMv l i to).1) ∧ ∃ ad' cap' av', Rg w' base lb o ad' cap' last most (sMv l i to).2 av' ∧ Tr lb o (ob ad) (ob ad') w w' := by
  by_cases hi : (0 ≤ i ∧ i < (l.length : Int)) ∧ (0 ≤ to ∧ to < (l.length : Int))
  · obtain ⟨k0, rfl⟩ := Int.eq_ofNat_of_zero_le hi.1.1
    obtain ⟨j, rfl⟩ := Int.eq_ofNat_of_zero_le hi.2.1
    have hk : k0 < l.length := by omega
    obtain ⟨x, hx⟩ : ∃ x, l[k0]? = some x := ⟨_, List.getElem?_eq_getElem hk⟩
    rw [sMv_ok hx (by omega)]
    exact rMove_ok h hbs k0 j x hx (by omega)
  · rw [sMv_no hi]
    refine (rMove_no h i to hi).mono ?_
    rintro e w' ⟨rfl, rfl⟩
    exact ⟨rfl, ad, cap, av, h, Tr.of o _ (Below.refl _ _) h.lt⟩
/-- Nothing turns but the book of lists and its rows. -/
structure Kw (base bb : Nat) (W V : World) : Prop where
  os : V.os = W.os
  tape : V.tape = W.tape
  output : V.output = W.output
  size : W.heap.size ≤ V.heap.size
  block : ∀ (q : Nat) (cur : Array Value) (t : TypeId) (z : Nat × Nat), W.heap[q]? = some (.cells cur t z) → q ≠ bb → (q < base ∨ (t ≠ 55 ∧ t ≠ 43)) → V.heap[q]? = some (.cells cur t z)
  low : ∀ q, q < base → q ≠ bb → V.heap[q]? = W.heap[q]?
theorem Kw.ofBelow {base bb : Nat} {W V : World} (h : Below W.heap.size W V) (hz : base ≤ W.heap.size) : Kw base bb W V := ⟨h.os, h.tape, h.output, h.size, fun q _ _ _ hq _ _ => (h.block q (lt_at hq)).trans hq, fun q hq _ => h.block q (by omega)⟩
theorem Kw.trans {base bb : Nat} {U V W : World} (h : Kw base bb U V) (k : Kw base bb V W) : Kw base bb U W :=
  ⟨k.os.trans h.os, k.tape.trans h.tape, k.output.trans h.output, Nat.le_trans h.size k.size, fun q c t z hq h1 h2 => k.block q c t z (h.block q c t z hq h1 h2) h1 h2, fun q h1 h2 => (k.low q h1 h2).trans (h.low q h1 h2)⟩
/-- The book of lists. -/
def NK (base bb : Nat) (W : World) : Prop := ∃ (u v p q : Value) (k m : Nat) (x y z t : List Value), k ≤ 400 ∧ m ≤ 400 ∧ KB p q W bb u v ∧ W.ownsRow base 55 1 u k x ∧ W.ownsRow base 55 1 v k y ∧ W.ownsRow base 43 1 p m z ∧ W.ownsRow base 43 1 q m t ∧ (∀ b, u.ownBlock = some b → v.ownBlock ≠ some b) ∧ (∀ b, p.ownBlock = some b → q.ownBlock ≠ some b) ∧ base ≤ bb
section
variable {base bb : Nat} {W V : World}
theorem NK.lo (h : NK base bb W) : base ≤ bb := by
  obtain ⟨_, _, _, _, _, _, _, _, _, _, _, _, _, _, _, _, _, _, _, h⟩ := h
  exact h
/-- It lies as it lay. -/
theorem NK.move (h : NK base bb W) (e : ∀ (b : Nat) (cur : Array Value) (t : TypeId), W.heap[b]? = some (.cells cur t (0, 0)) → (t = 41 ∨ t = 55 ∨ t = 43) → V.heap[b]? = some (.cells cur t (0, 0))) : NK base bb V := by
  obtain ⟨u, v, p, q, k, m, x, y, z, t, h1, h2, h3, h4, h5, h6, h7, h8, h9, h10⟩ := h
  exact ⟨u, v, p, q, k, m, x, y, z, t, h1, h2, e _ _ _ h3 (.inl rfl), row_at h4 (fun g c _ hc => e g c _ hc (.inr (.inl rfl))), row_at h5 (fun g c _ hc => e g c _ hc (.inr (.inl rfl))), row_at h6 (fun g c _ hc => e g c _ hc (.inr (.inr rfl))), row_at h7 (fun g c _ hc => e g c _ hc (.inr (.inr rfl))), h8, h9, h10⟩
theorem NK.carry (h : NK base bb W) (hb : Below W.heap.size W V) : NK base bb V := h.move (fun b _ _ hc _ => (hb.block b (lt_at hc)).trans hc)
theorem NK.ne (h : NK base bb W) {q : Nat} {cur : Array Value} {t : TypeId} {z : Nat × Nat} (hq : W.heap[q]? = some (.cells cur t z)) (ht : t ≠ 41) : q ≠ bb := fun e => by
  obtain ⟨u, v, p, q, k, m, x, y, z, t, h1, h2, h3, _⟩ := h
  subst e
  have := (show W.heap[_]? = _ from h3).symm.trans hq
  simp only [Option.some.injEq, Obj.cells.injEq] at this
  exact ht this.2.1.symm
/-- A block of another type stays. -/
theorem Kw.at {q : Nat} {cur : Array Value} {t : TypeId} {z : Nat × Nat} (h : Kw base bb W V) (hn : NK base bb W) (ho : W.heap[q]? = some (.cells cur t z)) (h1 : t ≠ 41) (h2 : t ≠ 55) (h3 : t ≠ 43) : V.heap[q]? = some (.cells cur t z) := h.block q cur t z ho (hn.ne ho h1) (.inr ⟨h2, h3⟩)
theorem kby_any (h : NK base bb W) (hbz : base ≤ W.heap.size) (ad : Option Addr) (c : Nat) (l : List Nat) (hr : RdY W ad l) (ht : ∀ a, ad = some a → ∃ cur fz, W.heap[a.block]? = some (.cells cur 5 fz)) (hl : l.length ≤ 2000) (hc : ad = none → c = 0) : Calls Tryz.prog 18 #[.pointer (some ⟨bb, 0, none⟩), .slice ad l.length c] W fun e w' => (∃ v, e = .returned v) ∧ NK base bb w' ∧ Kw base bb W w' := by
  have hN := h
  obtain ⟨u, v, p, q, k, m, x, y, z, t, h1, h2, h3, h4, h5, h6, h7, h8, h9, h10⟩ := h
  refine (kbytes_any (⟨u, v, h1, h3, h4, h5, h8, h10⟩ : NKx p q base bb W k x y) hbz ad c l hr.rd ht hl hc).mono ?_
  rintro e w' ⟨hv, hk, hd⟩
  have hrow : ∀ {v : Value} {n : Nat} {xs : List Value}, W.ownsRow base 43 1 v n xs → w'.ownsRow base 43 1 v n xs := fun ho => row_at ho (fun g cur _ hc => hk.block g _ hc (hN.ne hc (by decide)) (.inr (fun c fz e => by simp only [Obj.cells.injEq] at e; exact absurd e.2.1 (by decide))))
  refine ⟨hv, ?_, ⟨hk.os, hk.tape, hk.output, hk.size, fun b cur t z hq h1 h2 => hk.block b _ hq h1 (h2.imp id (fun h3 c fz e => by simp only [Obj.cells.injEq] at e; exact h3.1 e.2.1)), fun b hb1 hb2 => ?_⟩⟩
  · rcases hd with ⟨_, zz, ⟨u', v', k1, k2, k3, k4, k5, k6⟩, _⟩ | ⟨_, ⟨u', v', k1, k2, k3, k4, k5, k6⟩⟩
    · exact ⟨u', v', p, q, _, m, _, _, z, t, k1, h2, k2, k3, k4, hrow h6, hrow h7, k5, h9, k6⟩
    · exact ⟨u', v', p, q, _, m, _, _, z, t, k1, h2, k2, k3, k4, hrow h6, hrow h7, k5, h9, k6⟩
  · have hlt : b < W.heap.size := by omega
    rw [hk.block b _ (Array.getElem?_eq_getElem hlt) hb2 (.inl hb1), Array.getElem?_eq_getElem hlt]
theorem kgr_any (h : NK base bb W) (hbz : base ≤ W.heap.size) (ad : Option Addr) (c n : Nat) (l : List Value) (hr : RdF W ad l) (hln : l.length = n * 4) (h1c : ∀ u ∈ l, u.oneCell' = true) (ht : ∀ a, ad = some a → ∃ cur fz, W.heap[a.block]? = some (.cells cur 62 fz)) (hl : n ≤ 100000) (hc : ad = none → c = 0 ∧ n = 0) : Calls Tryz.prog 91 #[.pointer (some ⟨bb, 0, none⟩), .slice ad n c] W fun e w' => (∃ v, e = .returned v) ∧ NK base bb w' ∧ Kw base bb W w' := by
  have hN := h
  obtain ⟨u, v, p, q, k, m, x, y, z, t, h1, h2, h3, h4, h5, h6, h7, h8, h9, h10⟩ := h
  refine (kgrams_any (⟨p, q, h2, h3, h6, h7, h9, h10⟩ : NKG u v base bb W m z t) hbz ad c n l hr hln h1c ht hl hc).mono ?_
  rintro e w' ⟨hv, hk, hd⟩
  have hrow : ∀ {v : Value} {n : Nat} {xs : List Value}, W.ownsRow base 55 1 v n xs → w'.ownsRow base 55 1 v n xs := fun ho => row_at ho (fun g cur _ hc => hk.block g _ hc (hN.ne hc (by decide)) (.inr (fun c fz e => by simp only [Obj.cells.injEq] at e; exact absurd e.2.1 (by decide))))
  refine ⟨hv, ?_, ⟨hk.os, hk.tape, hk.output, hk.size, fun b cur t z hq h1 h2 => hk.block b _ hq h1 (h2.imp id (fun h3 c fz e => by simp only [Obj.cells.injEq] at e; exact h3.2 e.2.1)), fun b hb1 hb2 => ?_⟩⟩
  · rcases hd with ⟨_, zz, ⟨u', v', k1, k2, k3, k4, k5, k6⟩, _⟩ | ⟨_, ⟨u', v', k1, k2, k3, k4, k5, k6⟩⟩
    · exact ⟨u, v, u', v', k, _, x, y, _, _, h1, k1, k2, hrow h4, hrow h5, k3, k4, h8, k5, k6⟩
    · exact ⟨u, v, u', v', k, _, x, y, _, _, h1, k1, k2, hrow h4, hrow h5, k3, k4, h8, k5, k6⟩
  · have hlt : b < W.heap.size := by omega
    rw [hk.block b _ (Array.getElem?_eq_getElem hlt) hb2 (.inl hb1), Array.getElem?_eq_getElem hlt]
end
theorem gv_one (x : Gr) (a : Option Addr) (c : Nat) : ∀ u ∈ gv x a c, u.oneCell' = true := by
  intro u hu
  simp [gv] at hu
  rcases hu with rfl | rfl | rfl | rfl <;> rfl
theorem flG_one : ∀ (l : List Gr) (v : List (Option Addr × Nat)), ∀ u ∈ flG l v, u.oneCell' = true
  | [], _, u, hu => by simp [flG] at hu
  | _ :: _, [], u, hu => by simp [flG] at hu
  | x :: l, a :: v, u, hu => by
    rw [flG, List.mem_append] at hu
    rcases hu with hu | hu
    · exact gv_one x _ _ u hu
    · exact flG_one l v u hu
/-- What turns the book of lists leaves a list of datagrams. -/
theorem Gs.kw {base bb : Nat} {W V : World} {B D : Nat} {v : Value} {l : List Gr} {av : List (Option Addr × Nat)} (h : Gs W B D v l av) (hk : Kw base bb W V) (hn : NK base bb W) : Gs V B D v l av :=
  ⟨row_at h.row (fun _ _ _ hc => hk.at hn hc (by decide) (by decide) (by decide)), h.len, fun k x a h1 h2 => row_at (h.dat k x a h1 h2) (fun _ _ _ hc => hk.at hn hc (by decide) (by decide) (by decide))⟩
set_option maxHeartbeats 4000000 in
set_option maxRecDepth 100000 in
theorem gram_any {base bb : Nat} {w : World} {B D : Nat} {ad : Option Addr} {cap : Nat} {l : List Gr} {av : List (Option Addr × Nat)} (h : Gs w B D (.slice ad l.length cap) l av) (hn : NK base bb w) (hbz : base ≤ w.heap.size) (hl : l.length ≤ 65536) (hd : ∀ x ∈ l, x.2.2.2.length ≤ 1024) : Calls Tryz.prog 29 #[.pointer (some ⟨bb, 0, none⟩), .slice ad l.length cap] w fun e w' => (∃ v, e = .returned v) ∧ NK base bb w' ∧ Kw base bb w w' := by
  have HKG : Hid (∀ V, NK base bb V → Kw base bb w V → Calls Tryz.prog 91 #[.pointer (some ⟨bb, 0, none⟩), .slice ad l.length cap] V fun e w' => (∃ v, e = .returned v) ∧ NK base bb w' ∧ Kw base bb V w') := fun V hNV hKV => by
    have hg := h.kw hKV hn
    refine kgr_any hNV (Nat.le_trans hbz hKV.size) ad cap l.length (flG l av) (fun hne => ?_) (by rw [flG_len _ _ h.len]) (flG_one _ _) (fun a ha => ?_) (by omega) (fun e => ?_)
    · rcases own_form hg.row with ⟨e1, e2⟩ | ⟨g, c, e1, _, h3, _⟩
      · exact absurd (List.length_eq_zero_iff.1 (by rw [flG_len _ _ h.len]; omega)) hne
      · simp only [Value.slice.injEq] at e1
        obtain ⟨rfl, _, rfl⟩ := e1
        exact ⟨g, 0, rfl, h3, fun j u hj => by rw [Nat.zero_add]; exact (hg.row.cellAt j (by have := (List.getElem?_eq_some_iff.1 hj).1; have := flG_len l av h.len; omega)).trans hj⟩
    · subst ha
      obtain ⟨_, cur, hc⟩ := own_blk hg.row a.block (by rw [ob_eq]; rfl)
      exact ⟨cur, _, hc⟩
    · subst e
      rcases own_form hg.row with ⟨e1, e2⟩ | ⟨g, c, e1, _⟩
      · simp only [Value.slice.injEq] at e1
        exact ⟨e1.2.2, e2⟩
      · cases e1
  have HKB : Hid (∀ V (k : Nat) (x : Gr) (a : Option Addr × Nat), l[k]? = some x → av[k]? = some a → NK base bb V → Kw base bb w V → Calls Tryz.prog 18 #[.pointer (some ⟨bb, 0, none⟩), .slice a.1 x.2.2.2.length a.2] V fun e w' => (∃ v, e = .returned v) ∧ NK base bb w' ∧ Kw base bb V w') := fun V k x a hx ha hNV hKV => by
    have ho := (h.kw hKV hn).dat k x a hx ha
    exact kby_any hNV (Nat.le_trans hbz hKV.size) a.1 a.2 x.2.2.2 (RdY.own ho) (fun b e => by obtain ⟨_, cur, hc⟩ := own_blk ho b.block (by rw [ob_eq, e]; rfl); exact ⟨cur, _, hc⟩) (by have := hd x (List.mem_of_getElem? hx); omega) (none_cap ho)
  have HG : Hid (Gs w B D (.slice ad l.length cap) l av) := h
  have HN : Hid (NK base bb w) := hn
  clear h hn
  go_enter Tryz.func29, Tryz.ntmps29
  go_wp2
  go_loopw [4] (fun i wz => ∃ (k : Nat), i = .int .i64 (k : Int) ∧ k ≤ l.length ∧ NK base bb wz ∧ Kw base bb w wz) (fun i _ => l.length - vnat i)
  case atStart => exact ⟨0, rfl, Nat.zero_le _, HN.out, Kw.ofBelow (Below.refl _ _) hbz⟩
  case round =>
    obtain ⟨k, rfl, hk, hNr, hKr⟩ := hrel
    by_cases hkl : k < l.length
    · have hki : (k : Int) < (l.length : Int) := by omega
      obtain ⟨⟨xi, xf, xt, xd⟩, hx⟩ : ∃ x, l[k]? = some x := ⟨_, List.getElem?_eq_getElem hkl⟩
      obtain ⟨a, ha⟩ : ∃ a, av[k]? = some a := ⟨_, List.getElem?_eq_getElem (by rw [HG.out.len]; exact hkl)⟩
      have hgr := HG.out.kw hKr HN.out
      have hcb := HKB.out wr k _ a hx ha hNr hKr
      obtain ⟨_, _, _, c3⟩ := flG_get l av k _ a hx ha
      dsimp only at hcb c3
      rcases own_form hgr.row with ⟨e1, e2⟩ | ⟨g, c', e1, _, h3, _⟩
      · omega
      · simp only [Value.slice.injEq] at e1
        obtain ⟨rfl, _, rfl⟩ := e1
        have d3 : wr.cell? ⟨g, k * 4 + 3, none⟩ = some (.slice a.1 xd.length a.2) := (hgr.row.cellAt _ (by omega)).trans c3
        have hix := idx_Gz g l.length cap k hkl
        clear hx ha hgr c3 hNr
        go_wp2_with (go_at_call 18; (with_reducible refine hcb.mono ?_); rintro e u1 ⟨⟨v1, rfl⟩, hN1, hK1⟩)
        go_roundw
        case rel => exact ⟨k + 1, by simp, by omega, hN1, hKr.trans hK1⟩
        case measure => simp [vnat]; omega
    · have hki : ¬ (k : Int) < (l.length : Int) := by omega
      have hkk : k = l.length := by omega
      have hcg := HKG.out wr hNr hKr
      go_wp2_with (go_at_call 91; (with_reducible refine hcg.mono ?_); rintro e u1 ⟨⟨v1, rfl⟩, hN1, hK1⟩)
      go_end0
      exact ⟨⟨_, rfl⟩, hN1, hKr.trans hK1⟩
end Go.Proofs.YtcgghhfnlobodaaGreat
