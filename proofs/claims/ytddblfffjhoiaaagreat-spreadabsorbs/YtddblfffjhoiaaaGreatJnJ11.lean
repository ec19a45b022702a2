/- SpreadAbsorbs: both books and the book of lists, from step to step. -/
import Derived.Test.YtddblfffjhoiaaaGreatJnJ10
import Derived.Test.YtddblfffjhoiaaaGreatJnJ9
namespace Go.Proofs.YtddblfffjhoiaaaGreat
open Go.RowKit Go.Shelf Go.Lib

/-- Both books between the steps: the program's has L, the document's D. -/
structure JA (w : World) (base bb b12 : Nat) (v : Value) (q : Option Nat) (n : Nat) (ar : Option Addr) (cr : Nat) (L D : List N3) (V : World) : Prop where
  bq : BQ V v q L
  rb : RB V b12 (.slice ar n cr)
  rd : RdN V ar D
  sep : ∀ a, ar = some a → q ≠ some a.block
  ty : ∀ a, ar = some a → a.block < base ∨ ∃ cur, V.heap[a.block]? = some (.cells cur 66 (0, 0))
  nk : NK (fun b => q = some b) base bb V
  lq : ∀ g, q = some g → w.heap.size ≤ g ∧ g < V.heap.size
  low : w.heap.size ≤ base ∧ base ≤ V.heap.size ∧ w.heap.size ≤ b12
  be : Below w.heap.size w V
section
variable {w : World} {base bb b12 : Nat} {v : Value} {q : Option Nat} {n : Nat} {ar : Option Addr} {cr : Nat} {L L' D D' : List N3} {V V' : World}
theorem ty_keep {base : Nat} {V V' : World} {ar : Option Addr} (h : ∀ a, ar = some a → a.block < base ∨ ∃ cur, V.heap[a.block]? = some (.cells cur 66 (0, 0))) (hk : ∀ a cur, ar = some a → V.heap[a.block]? = some (.cells cur 66 (0, 0)) → V'.heap[a.block]? = some (.cells cur 66 (0, 0))) : ∀ a, ar = some a → a.block < base ∨ ∃ cur, V'.heap[a.block]? = some (.cells cur 66 (0, 0)) := fun a e => (h a e).imp id (fun ⟨cur, hc⟩ => ⟨cur, hk a cur e hc⟩)
theorem JA.carry (h : JA w base bb b12 v q n ar cr L D V) (hb : Below V.heap.size V V') : JA w base bb b12 v q n ar cr L D V' :=
  ⟨h.bq.carry hb, h.rb.carry hb, h.rd.carry hb, h.sep, ty_keep h.ty (fun _ _ _ hc => (hb.block _ (lt_at hc)).trans hc), h.nk.carry hb, fun g e => ⟨(h.lq g e).1, Nat.lt_of_lt_of_le (h.lq g e).2 hb.size⟩, ⟨h.low.1, Nat.le_trans h.low.2.1 hb.size, h.low.2.2⟩, bel2 h.be hb⟩
theorem bq_blk {W : World} {g : Nat} (h : BQ W v (some g) L) : ∃ cur, W.heap[g]? = some (.cells cur 66 (0, 0)) := by
  rcases h with ⟨_, e, _⟩ | ⟨p, g', _, e, h, _⟩
  · cases e
  · cases e
    exact ⟨_, h.row⟩
/-- The program's book turns. -/
theorem JA.turn (h : JA w base bb b12 v q n ar cr L D V) (hq : BQ V' v q L') (hg : V.grownBy V' q) : JA w base bb b12 v q n ar cr L' D V' := by
  cases q with
  | none =>
    have hb : Below V.heap.size V V' := ⟨hg.os, hg.tape, hg.output, hg.size, fun k hk => hg.block k hk (by simp)⟩
    have := h.carry hb
    exact ⟨hq, this.rb, this.rd, this.sep, this.ty, this.nk, this.lq, this.low, this.be⟩
  | some g =>
    obtain ⟨cur, hc⟩ := bq_blk h.bq
    have hgl := (h.lq g rfl).1
    refine ⟨hq, ?_, ?_, h.sep, ty_keep h.ty (fun a cur e hc => (hg.block _ (lt_at hc) (fun e2 => h.sep a e e2.symm)).trans hc), ?_, fun g' e => ⟨(h.lq g' e).1, Nat.lt_of_lt_of_le (h.lq g' e).2 hg.size⟩, ⟨h.low.1, Nat.le_trans h.low.2.1 hg.size, h.low.2.2⟩, grown_new h.be hg hgl⟩
    · refine (hg.block _ (lt_at h.rb) (fun e => ?_)).trans h.rb
      have e' : b12 = g := by simpa using e
      exact rb_ne h.rb hc e'.symm
    · exact h.rd.turn hg (fun _ a e e2 => h.sep a e (by rw [e2]))
    · exact h.nk.grown hc (by decide) (by decide) (.inr rfl) hg
/-- The document's book is put. -/
theorem JA.put (h : JA w base bb b12 v q n ar cr L D V) {ar' : Option Addr} {cr' : Nat} (hr : RdN V ar' D') (hs : ∀ a, ar' = some a → q ≠ some a.block) (ht : ∀ a, ar' = some a → a.block < base ∨ ∃ cur, V.heap[a.block]? = some (.cells cur 66 (0, 0))) : JA w base bb b12 v q n ar' cr' L D' (V.setRow b12 #[.slice ar' n cr']) := by
  have hne : ∀ {k : Nat} {cur : Array Value} {t : TypeId}, V.heap[k]? = some (.cells cur t (0, 0)) → t ≠ 27 → (V.setRow b12 #[.slice ar' n cr']).heap[k]? = some (.cells cur t (0, 0)) := fun {k cur t} hk ht => by
    refine (setRow_other (fun e => ?_)).trans hk
    subst e
    have h1 : V.heap[k]? = some (.cells #[.slice ar n cr] 27 (0, 0)) := h.rb
    rw [h1] at hk
    cases hk
    exact ht rfl
  have hg : V.grownBy (V.setRow b12 #[.slice ar' n cr']) (some b12) := ⟨rfl, rfl, rfl, by simp [World.setRow], fun k _ hk => setRow_other (by simpa using hk)⟩
  refine ⟨?_, setRow_heap _ _ _ _ _ _ h.rb, rd_keep hr (by simp [World.setRow]) (fun hne' a e => setRow_other (rd_ne_rb hr h.rb (fun k i e => by simp at e) hne' a e)), hs, ty_keep ht (fun a cur _ hc => hne hc (by decide)), h.nk.grown h.rb (by decide) (by decide) (.inl (by decide)) hg, fun g' e => ⟨(h.lq g' e).1, by simpa [World.setRow] using (h.lq g' e).2⟩, ⟨h.low.1, by simpa [World.setRow] using h.low.2.1, h.low.2.2⟩, below_sr h.be h.low.2.2⟩
  rcases h.bq with h1 | ⟨p, g, e, e2, hk, h2⟩
  · exact .inl h1
  · exact .inr ⟨p, g, e, e2, ⟨hne hk.obj (by decide), hne hk.row (by decide)⟩, h2⟩
theorem kp_ty {W : World} (hk : Kp base bb W V) {σ : Sg} (hn : NK σ base bb W) {k : Nat} {cur : Array Value} {t : TypeId} (h : W.heap[k]? = some (.cells cur t (0, 0))) (h1 : t ≠ 43) (h2 : t ≠ 22) : V.heap[k]? = some (.cells cur t (0, 0)) := by
  obtain ⟨_, kk, x, y, LL, ⟨u, z, _, hkb, _⟩, _⟩ := hn
  refine hk.block k _ h (fun e => ?_) (.inr (fun c fz e3 => ?_))
  · subst e
    have h3 : W.heap[k]? = some (.cells (bkc u z) 43 (0, 0)) := hkb
    rw [h3] at h
    cases h
    exact h1 rfl
  · cases e3
    exact h2 rfl
theorem kp_low {W : World} (hk : Kp base bb W V) {σ : Sg} (hn : NK σ base bb W) {k : Nat} (h : k < base) (hw : k < W.heap.size) : V.heap[k]? = W.heap[k]? := by
  obtain ⟨_, kk, x, y, LL, ⟨u, z, _, _, _, _, _, hbb⟩, _⟩ := hn
  obtain ⟨o, ho⟩ : ∃ o, W.heap[k]? = some o := ⟨_, Array.getElem?_eq_getElem hw⟩
  rw [ho]
  exact hk.block k _ ho (by omega) (.inl h)
/-- A list is kept. -/
theorem JA.kept (h : JA w base bb b12 v q n ar cr L D V) (hk : Kp base bb V V') (hn : NK (fun b => q = some b) base bb V') : JA w base bb b12 v q n ar cr L D V' := by
  have hty : ∀ {k : Nat} {cur : Array Value} {t : TypeId}, V.heap[k]? = some (.cells cur t (0, 0)) → t ≠ 43 → t ≠ 22 → V'.heap[k]? = some (.cells cur t (0, 0)) := fun h1 h2 h3 => kp_ty hk h.nk h1 h2 h3
  refine ⟨?_, hty h.rb (by decide) (by decide), rd_keep h.rd hk.size (fun hne a e => ?_), h.sep, ty_keep h.ty (fun a cur _ hc => hty hc (by decide) (by decide)), hn, fun g' e => ⟨(h.lq g' e).1, Nat.lt_of_lt_of_le (h.lq g' e).2 hk.size⟩, ⟨h.low.1, Nat.le_trans h.low.2.1 hk.size, h.low.2.2⟩, ?_⟩
  · rcases h.bq with h1 | ⟨p, g, e, e2, hb, h2⟩
    · exact .inl h1
    · exact .inr ⟨p, g, e, e2, ⟨hty hb.obj (by decide) (by decide), hty hb.row (by decide) (by decide)⟩, h2⟩
  · rcases h.ty a e with h1 | ⟨cur, hc⟩
    · exact kp_low hk h.nk h1 (Nat.lt_of_lt_of_le h1 h.low.2.1)
    · exact (hty hc (by decide) (by decide)).trans hc.symm
  · exact ⟨hk.os.trans h.be.os, hk.tape.trans h.be.tape, hk.output.trans h.be.output, Nat.le_trans h.be.size hk.size, fun k hk' => (kp_low hk h.nk (by have := h.low.1; omega) (by have := h.be.size; omega)).trans (h.be.block k hk')⟩
end
set_option maxHeartbeats 1000000 in
set_option maxRecDepth 100000 in
theorem rnews0 (w : World) : Calls Tryz.prog 15 #[.agg #[.slice none 0 0]] w fun e w' => e = .returned (.slice none 0 0) ∧ Below w.heap.size w w' := by
  go_enter Tryz.func15, Tryz.ntmps15
  go_wp2
  refine wp_loop_once ?_
  go_wp2
  go_ret
  exact ⟨rfl, al1 _ _⟩
theorem rNewsN {w : World} (ad : Option Addr) (n cap : Nat) (L : List N3) (h : RdN w ad L) (hn : L.length = n) (h1 : n ≤ 100) (hz : n = 0 → ad = none ∧ cap = 0) (hbo : Bok L) : Calls Tryz.prog 15 #[.agg #[.slice ad n cap]] w fun e w' => ∃ a c, e = .returned (.slice a (L.filter pNew).length c) ∧ RdN w' a (L.filter pNew) ∧ Below w.heap.size w w' := by
  by_cases h0 : n = 0
  · obtain ⟨rfl, rfl⟩ := hz h0
    subst h0
    have hL0 : L = [] := List.length_eq_zero_iff.1 hn
    subst hL0
    refine (rnews0 w).mono ?_
    rintro e w' ⟨rfl, hb⟩
    exact ⟨none, 0, rfl, fun e => absurd rfl e, hb⟩
  · refine (rNews_any ad n cap L h hn (by omega) h1 hbo).mono ?_
    rintro e w' ⟨v, rfl, hm, hb⟩
    obtain ⟨a, c, rfl, hr, _⟩ := hm.rd
    exact ⟨a, c, rfl, hr, hb⟩
end Go.Proofs.YtddblfffjhoiaaaGreat
namespace Go.Proofs.YtddblfffjhoiaaaGreat
open Go.RowKit Go.Shelf Go.Lib

theorem ja_start {w y1 W0 : World} {v : Value} {ar : Option Addr} {n cr b12 : Nat} {L : List N3} (hm : M2 w y1 v ar n cr L) (hr : RB y1 b12 (.slice ar n cr)) (hb : w.heap.size ≤ b12) (hY : Below w.heap.size w y1) (hW : y1.alloc (.cells (bkc (.slice none 0 0) (.slice none 0 0)) 43) = W0) : ∃ q, JA w y1.heap.size y1.heap.size b12 v q n ar cr L L W0 ∧ (L.length = n ∧ n ≤ cr ∧ (n = 0 → ar = none ∧ cr = 0) ∧ Bok L) := by
  have hbl : Below y1.heap.size y1 W0 := by rw [← hW]; exact al1 _ _
  have hKB : KB W0 y1.heap.size (.slice none 0 0) (.slice none 0 0) := by rw [← hW]; exact new_at rfl
  have hm0 := hm.carry hbl
  obtain ⟨q, hq, hsep, hlq⟩ : ∃ q, BQ W0 v q L ∧ (∀ a, ar = some a → q ≠ some a.block) ∧ (∀ g, q = some g → w.heap.size ≤ g ∧ g < W0.heap.size) := by
    rcases hm0.bv with ⟨e1, e2, e3, e4⟩ | ⟨p, g, e, h1, h2, h3, h4, h5⟩
    · exact ⟨none, .inl ⟨e1, rfl, e2⟩, fun a _ => by simp, fun g e => by cases e⟩
    · exact ⟨some g, .inr ⟨p, g, e, rfl, h1, by rw [hm0.len]; exact h5, by rw [hm0.len]; exact hm0.le, hm0.bok⟩, fun a e e2 => h4 a e (Option.some.inj e2).symm, fun g' e => by cases e; exact ⟨h3, h1.glt⟩⟩
  have hlt : ∀ a, ar = some a → L ≠ [] → a.block < y1.heap.size := fun a e hne => by
    obtain ⟨b, off, e2, hb, _⟩ := hm.rd hne
    rw [e2] at e
    cases e
    exact hb
  refine ⟨q, ⟨hq, hr.carry hbl, hm0.rd, hsep, fun a e => ?_, ⟨fun b hb => (hlq b hb).2, 0, [], [], [], ⟨_, _, by omega, hKB, World.ownsRow_nil _ _ _ _, World.ownsRow_nil _ _ _ _, fun q e => (by cases e), Nat.le_refl _⟩, rfl, ⟨fun i l h => (by simp at h), rfl, rfl, fun i j g z z' h => (by simp at h)⟩⟩, hlq, ⟨hY.size, hbl.size, hb⟩, bel2 hY hbl⟩, hm.len, hm.room, fun e => ?_, hm.bok⟩
  · rcases hm0.bv with ⟨e1, e2, e3, e4⟩ | ⟨p, g, e', h1, h2, h3, h4, h5⟩
    · rw [e3] at e
      cases e
    · exact .inl (hlt a e (fun e2 => by have := hm.len; rw [e2] at this; simp at this; omega))
  · rcases hm0.bv with ⟨e1, e2, e3, e4⟩ | ⟨p, g, e', h1, h2, h3, h4, h5⟩
    · exact ⟨e3, e4⟩
    · omega
theorem nts_pre {V : World} {g o : Nat} {l k : List N3} (h : NtsAt V g o (l ++ k)) : NtsAt V g o l := fun i x hx => h i x (by rw [List.getElem?_append_left (List.getElem?_eq_some_iff.1 hx).1]; exact hx)
theorem nts_blk {W V : World} {g o : Nat} {l : List N3} {cur : Array Value} {t : TypeId} (h : NtsAt W g o l) (hw : W.heap[g]? = some (.cells cur t (0, 0))) (hv : V.heap[g]? = some (.cells cur t (0, 0))) : NtsAt V g o l := fun i x hx => by
  have q : V.heap[g]? = W.heap[g]? := hv.trans hw.symm
  obtain ⟨c0, c1, c2⟩ := h i x hx
  exact ⟨(World.cell?_of_block (a := ⟨g, _, none⟩) q).trans c0, (World.cell?_of_block (a := ⟨g, _, none⟩) q).trans c1, (World.cell?_of_block (a := ⟨g, _, none⟩) q).trans c2⟩
theorem idx_n2 (gb off n cap i : Nat) (h : i < n) (W : World) : (Instr.indexAt 23 (.slice (some ⟨gb, off, none⟩) n cap) (.int .i64 (i : Int))).run Tryz.prog W = .ok (.pointer (some ⟨gb, off + i, none⟩)) W := by
  have h2 : (i : Int) < (n : Int) := by omega
  go_simp
theorem load_n2x {W : World} {gb o n c : Nat} {a : Option Addr} (h : W.cell? ⟨gb, o, none⟩ = some (.slice a n c)) : (Instr.loadAt 22 (.pointer (some ⟨gb, o, none⟩))).run Tryz.prog W = .ok (.slice a n c) W := by go_simp
theorem bin_neqs {P : Program} {t : TypeId} {x y : Operand} {w : World} (k : IntKind) (a : Int) : binRun P .neq t x y (.int k a) (.int k a) w = .ok (.bool false) w := by simp [binRun, go_sem]
theorem abr_lt (L : List N3) (s : Int) (m : List N3) : abr L s m < S128 := by
  have h : abr L s m < 2 ^ 100 := by
    unfold abr
    split
    · exact mrs_lt _ _
    · decide
  exact Nat.lt_trans h (by decide)
end Go.Proofs.YtddblfffjhoiaaaGreat
namespace Go.Proofs.YtddblfffjhoiaaaGreat
open Go.ChangeShapes Go.WideShapes Go.ChangeAt Go.RowKit

set_option maxRecDepth 100000 in
theorem cs_nts {H : Type} {enc : TypeId × Value → H} {W : World} {fuel : Nat} {cs : List Value} {x : DataW H × List MemPlace} (hf : DataW.trod enc Tryz.prog W 0 (fun _ => true) true fuel 22 cs = some x) : ∃ (ad : Option Addr) (cap : Nat) (l : List (Int × Int × Int)), cs = [.slice ad l.length cap] ∧ RdN W ad l ∧ (ad = none → cap = 0) ∧ l.length ≤ cap := by
  obtain ⟨d, p⟩ := x
  rcases Deep.open_slice Tryz.underlying22 hf with ⟨hcs, _⟩ | ⟨a, len, cap, m, n, D, Pl, hcs, _, hlc, hcm, hmm, hx, hel⟩
  · exact ⟨none, 0, [], hcs, fun h => absurd rfl h, fun _ => rfl, Nat.le_refl _⟩
  · have hm : m = cap := by simpa using hmm
    have each : ∀ i, i < len → ∃ x : Int × Int × Int, W.cell? (a.add (i * 3)) = some (.int .i64 x.1) ∧ W.cell? (a.add (i * 3 + 1)) = some (.int .i64 x.2.1) ∧ W.cell? (a.add (i * 3 + 2)) = some (.int .i64 x.2.2) := by
      intro i hi
      obtain ⟨cs, h1, h2⟩ := hel i (by omega)
      rw [cellsNM] at h1
      obtain ⟨_, hlen, hcell⟩ := World.cells?_some h1
      obtain ⟨o, t, k, rfl⟩ := one_nt hlen h2
      have e0 := hcell 0 (by omega)
      have e1 := hcell 1 (by omega)
      have e2 := hcell 2 (by omega)
      rw [Deep.add_add] at e0 e1 e2
      exact ⟨(o, t, k), by simpa using e0, by simpa using e1, by simpa using e2⟩
    obtain ⟨q, hq⟩ := Deep.choose_lt each
    refine ⟨some a, cap, (List.range len).map q, by simpa using hcs, fun hne => ?_, fun e => (by cases e), by simpa using hlc⟩
    have hpos : 0 < len := by
      cases len with
      | zero => simp at hne
      | succ n => omega
    obtain ⟨b', off', x'⟩ := a
    have hx' : x' = none := by simpa [Addr.add] using World.cell?_spot (hq 0 hpos).1
    subst hx'
    have hadd : ∀ j, (⟨b', off', none⟩ : Addr).add j = ⟨b', off' + j, none⟩ := fun j => by unfold Addr.add; split <;> simp_all
    refine ⟨b', off', rfl, ?_, fun k y hy => ?_⟩
    · have := cell_ltM (hq 0 hpos).1
      rw [hadd] at this
      exact this
    · rw [List.getElem?_map] at hy
      obtain ⟨k', hk', rfl⟩ := Option.map_eq_some_iff.1 hy
      have hk := (List.getElem?_eq_some_iff.1 hk').1
      simp at hk
      have hkk : k' = k := by
        rw [List.getElem?_range hk] at hk'
        exact (Option.some.inj hk').symm
      subst hkk
      obtain ⟨c0, c1, c2⟩ := hq k' hk
      rw [hadd] at c0 c1 c2
      exact ⟨c0, by simpa [Nat.add_assoc] using c1, by simpa [Nat.add_assoc] using c2⟩
/-- A slice of slices of notices. -/
def RdNN (W : World) (ad : Option Addr) (ls : List (List (Int × Int × Int))) : Prop := ls ≠ [] → ∃ b off, ad = some ⟨b, off, none⟩ ∧ b < W.heap.size ∧ ∀ (i : Nat) (l : List (Int × Int × Int)), ls[i]? = some l → ∃ adi capi, W.cell? ⟨b, off + i, none⟩ = some (.slice adi l.length capi) ∧ RdN W adi l ∧ (adi = none → capi = 0)
set_option maxRecDepth 100000 in
theorem RdNN.carry {W W' : World} {ad : Option Addr} {ls : List (List (Int × Int × Int))} (h : RdNN W ad ls) (hb : Below W.heap.size W W') : RdNN W' ad ls := by
  intro hl
  obtain ⟨b, off, h1, h2, h3⟩ := h hl
  refine ⟨b, off, h1, Nat.lt_of_lt_of_le h2 hb.size, fun i l hi => ?_⟩
  obtain ⟨adi, capi, c, hr, hc⟩ := h3 i l hi
  exact ⟨adi, capi, (hb.cell (p := ⟨b, _, none⟩) h2).trans c, hr.carry hb, hc⟩
set_option maxRecDepth 100000 in
theorem cellsSM : Tryz.prog.cellsOf 22 = 1 := by kernel_rfl
set_option maxRecDepth 100000 in
set_option maxRecDepth 100000 in
theorem open_ntss {H : Type} {enc : TypeId × Value → H} {W : World} {base : Nat} {v : Value} {d : DataW H} {p : List MemPlace} (hval : Value.okWide Tryz.prog W .any base 23 v)
    (h : DataW.Trod enc Tryz.prog W 0 (fun _ => true) true 23 v d p) : ∃ (ad : Option Addr) (cap : Nat) (ls : List (List (Int × Int × Int))), v = .slice ad ls.length cap ∧ RdNN W ad ls := by
  obtain ⟨a0, len0, cap0, rfl⟩ := okWide_slice Tryz.underlying23 hval
  obtain ⟨fuel, hf⟩ := h
  rcases Deep.open_slice Tryz.underlying23 hf with ⟨hcs, _⟩ | ⟨a, len, cap, m, n, D, Pl, hcs, _, hlc, hcm, hmm, hx, hel⟩
  · simp [Value.cells] at hcs
    obtain ⟨rfl, rfl, rfl⟩ := hcs
    exact ⟨none, 0, [], rfl, fun h => absurd rfl h⟩
  · simp [Value.cells] at hcs
    obtain ⟨rfl, rfl, rfl⟩ := hcs
    have hm : m = cap0 := by simpa using hmm
    have each : ∀ i, i < len0 → ∃ l : List (Int × Int × Int), ∃ adi capi, W.cell? (a.add i) = some (.slice adi l.length capi) ∧ RdN W adi l ∧ (adi = none → capi = 0) := by
      intro i hi
      obtain ⟨cs, h1, h2⟩ := hel i (by omega)
      rw [cellsSM] at h1
      obtain ⟨_, hlen, hcell⟩ := World.cells?_some h1
      obtain ⟨adi, capi, l, rfl, hr, hc, _⟩ := cs_nts h2
      have e0 := hcell 0 (by omega)
      rw [Deep.add_add] at e0
      exact ⟨l, adi, capi, by simpa using e0, hr, hc⟩
    obtain ⟨q, hq⟩ := Deep.choose_lt each
    refine ⟨some a, cap0, (List.range len0).map q, by simp, fun hne => ?_⟩
    have hpos : 0 < len0 := by
      cases len0 with
      | zero => simp at hne
      | succ n => omega
    obtain ⟨b', off', x'⟩ := a
    obtain ⟨ad0, cap0', c0, _⟩ := hq 0 hpos
    have hx' : x' = none := by simpa [Addr.add] using World.cell?_spot c0
    subst hx'
    have hadd : ∀ j, (⟨b', off', none⟩ : Addr).add j = ⟨b', off' + j, none⟩ := fun j => by unfold Addr.add; split <;> simp_all
    refine ⟨b', off', rfl, ?_, fun k y hy => ?_⟩
    · have := cell_ltM c0
      rw [hadd] at this
      exact this
    · rw [List.getElem?_map] at hy
      obtain ⟨k', hk', rfl⟩ := Option.map_eq_some_iff.1 hy
      have hk := (List.getElem?_eq_some_iff.1 hk').1
      simp at hk
      have hkk : k' = k := by
        rw [List.getElem?_range hk] at hk'
        exact (Option.some.inj hk').symm
      subst hkk
      obtain ⟨adi, capi, c, hr⟩ := hq k' hk
      rw [hadd] at c
      exact ⟨adi, capi, c, hr⟩
end Go.Proofs.YtddblfffjhoiaaaGreat
