/- The document's Above, Absorb; a book and the document's, of some notices. -/
import Derived.Test.YtddblfffjhoiaabGreatJnJ2
import Derived.Test.YtddblfffjhoiaabGreatJnJ5
import Derived.Test.YtddblfffjhoiaabGreatFll
import Derived.Maps.AppendAt
import Derived.OwnWalk
import Derived.Laws.OwnMore
namespace Go.Proofs.YtddblfffjhoiaabGreat
open Go.RowKit Go.Shelf Go.Lib

theorem atN_at' {l : List N3} {i : Nat} {x : N3} (h : l[i]? = some x) : atN l (i : Int) = x := by
  have hi : i < l.length := (List.getElem?_eq_some_iff.1 h).1
  rw [atN, if_pos ⟨by omega, by omega⟩, Int.toNat_natCast, h]
  rfl
end Go.Proofs.YtddblfffjhoiaabGreat
namespace Go.Proofs.YtddblfffjhoiaabGreat
open Go.RowKit Go.Shelf Go.Lib

theorem retTR {f : Func} {p q : Tmp} {R : Ending → World → Prop} {a : Act} {w : World} {b n c : Nat} {ad : Option Addr} {x : Value} (hres : f.results = #[.tmp q, .cell p 29]) (hp : a.tmps.getD p undef = .pointer (some ⟨b, 0, none⟩)) (hq : a.tmps.getD q undef = x) (hd : a.defers = []) (h : RB w b (.slice ad n c)) (hR : R (.returned (.tuple #[x, .agg #[.slice ad n c]])) w) : bodyPost Tryz.prog f R .ret a w := by
  refine bodyPost_ret (v := .tuple #[x, .agg #[.slice ad n c]]) ?_ hd hR
  have hp' : a.tmps[p]?.getD undef = .pointer (some ⟨b, 0, none⟩) := by simpa using hp
  have hq' : a.tmps[q]?.getD undef = x := by simpa using hq
  have c0 := h.cell
  simp [results, hres, hp', hq', asAddr]
  go_simp
theorem rd_set {W : World} {ad : Option Addr} {L : List N3} {b j : Nat} {v : Value} (h : RdN W ad L) (hne : ∀ a, ad = some a → a.block ≠ b) : RdN (W.setCell ⟨b, j, none⟩ v) ad L := fun hl => by
  obtain ⟨bk, off, e, h1, h2⟩ := h hl
  have hn : bk ≠ b := hne _ e
  have q : (W.setCell ⟨b, j, none⟩ v).heap[bk]? = W.heap[bk]? := Below.heap_setCell _ _ _ _ hn
  refine ⟨bk, off, e, by simpa using h1, fun k x hx => ?_⟩
  obtain ⟨c0, c1, c2⟩ := h2 k x hx
  exact ⟨(World.cell?_of_block (a := ⟨bk, _, none⟩) q).trans c0, (World.cell?_of_block (a := ⟨bk, _, none⟩) q).trans c1, (World.cell?_of_block (a := ⟨bk, _, none⟩) q).trans c2⟩
theorem Bk.cellNe {W : World} {p g b j : Nat} {l : List N3} {v : Value} (h : Bk W p g l) (h1 : p ≠ b) (h2 : g ≠ b) : Bk (W.setCell ⟨b, j, none⟩ v) p g l := ⟨(Below.heap_setCell _ _ _ _ h1).trans h.obj, (Below.heap_setCell _ _ _ _ h2).trans h.row⟩
/-- What the book and the document's have. -/
def mk2 (n self : Int) (l : List N3) : List N3 := if ¬ (n < 1 ∨ 100 < n) ∧ ¬ (self < 0 ∨ n ≤ self) then mrg (bk0 n.toNat self.toNat 0) l else []
theorem mk2_ok (n self : Int) (l : List N3) : (mk2 n self l).length ≤ 100 ∧ Bok (mk2 n self l) := by
  unfold mk2
  split
  · rename_i h
    have hb : Bok (bk0 n.toNat self.toNat 0) := bk0_bok (by omega) (by omega)
    refine ⟨?_, mrg_bok hb _⟩
    rw [mrg_len hb, bk0_len]
    omega
  · exact ⟨by simp, fun i x hx => by simp at hx⟩
/-- Both, in a world: the program's is nil, or lies in blocks of its own. -/
structure M2 (w W : World) (v : Value) (ad : Option Addr) (n cap : Nat) (L : List N3) : Prop where
  rd : RdN W ad L
  len : L.length = n
  room : n ≤ cap
  le : n ≤ 100
  bok : Bok L
  nw : ∀ a, ad = some a → w.heap.size ≤ a.block
  bv : (v = .pointer none ∧ L = [] ∧ ad = none ∧ cap = 0) ∨ ∃ p g, v = .pointer (some ⟨p, 0, none⟩) ∧ Bk W p g L ∧ w.heap.size ≤ p ∧ w.heap.size ≤ g ∧ (∀ a, ad = some a → a.block ≠ g) ∧ 0 < n
  ty : ∀ a, ad = some a → ∃ cur, W.heap[a.block]? = some (.cells cur 61 (0, 0))
theorem M2.carry {w W V : World} {v : Value} {ad : Option Addr} {n cap : Nat} {L : List N3} (h : M2 w W v ad n cap L) (hb : Below W.heap.size W V) : M2 w V v ad n cap L :=
  ⟨h.rd.carry hb, h.len, h.room, h.le, h.bok, h.nw, by
    rcases h.bv with h1 | ⟨p, g, e, h1, h2⟩
    · exact .inl h1
    · exact .inr ⟨p, g, e, h1.carry hb, h2⟩, fun a e => (h.ty a e).imp (fun _ hc => (hb.block _ (lt_at hc)).trans hc)⟩
theorem M2.val {w W : World} {v : Value} {ad : Option Addr} {n cap : Nat} {L : List N3} (h : M2 w W v ad n cap L) : BV W v L := by
  rcases h.bv with ⟨e1, e2, _⟩ | ⟨p, g, e, h1, h2, h3, h4, h5⟩
  · exact .inl ⟨e1, e2⟩
  · exact .inr ⟨p, g, e, h1, by rw [h.len]; exact h5, by rw [h.len]; exact h.le, h.bok⟩
theorem rnew_bad {n self : Int} {w w' : World} {e : Ending} (h : RNewV n self 0 w e w') (hb : ¬ (¬ (n < 1 ∨ 100 < n) ∧ ¬ (self < 0 ∨ n ≤ self))) : ∃ E : Int, (E == 0) = false ∧ e = .returned (.tuple #[.agg #[.slice none 0 0], .int .i64 E]) := by
  obtain ⟨_, h⟩ := h
  split at h
  · exact ⟨1, rfl, h⟩
  · rename_i h1
    split at h
    · exact ⟨30, rfl, h⟩
    · rename_i h2
      exact absurd ⟨h1, h2⟩ hb
theorem new_bad2 {n self : Int} {w w' : World} {e : Ending} (h : NewV n self 0 w e w') (hb : ¬ (¬ (n < 1 ∨ 100 < n) ∧ ¬ (self < 0 ∨ n ≤ self))) : ∃ E : Int, e = .returned (.tuple #[.pointer none, .int .i64 E]) := by
  obtain ⟨_, h⟩ := h
  split at h
  · exact ⟨1, h⟩
  · rename_i h1
    split at h
    · exact ⟨30, h⟩
    · rename_i h2
      exact absurd ⟨h1, h2⟩ hb
set_option maxHeartbeats 8000000 in
set_option maxRecDepth 100000 in
theorem make2_any {w : World} (n self : Int) (ad : Option Addr) (cap : Nat) (l : List N3) (h : RdN w ad l) (hl : l.length ≤ 1000000) : Calls Tryz.prog 5 #[.int .i64 n, .int .i64 self, .slice ad l.length cap] w fun e w' => ∃ v ad' n' cap', e = .returned (.tuple #[v, .agg #[.slice ad' n' cap']]) ∧ M2 w w' v ad' n' cap' (mk2 n self l) ∧ Below w.heap.size w w' := by
  have hmx : Tryz.prog.follows .mixedOrders = true := by kernel_rfl
  obtain ⟨w1, hw1⟩ : ∃ w1, w.alloc (.cells #[.slice none 0 0] 29) = w1 := ⟨_, rfl⟩
  have hb1 : Below w.heap.size w w1 := by rw [← hw1]; exact al1 _ _
  have hz1 : w.heap.size < w1.heap.size := by rw [← hw1]; simp
  have r1 : RB w1 w.heap.size (.slice none 0 0) := by rw [← hw1]; exact new_at rfl
  have hnw := new_any n self 0 w1
  have hrn := fun V => rNew_any n self 0 V
  have HW : Hid (RdN w ad l) := h
  clear h
  by_cases hok : ¬ (n < 1 ∨ 100 < n) ∧ ¬ (self < 0 ∨ n ≤ self)
  case neg =>
    have HM : Hid (mk2 n self l = []) := by show _ = _; unfold mk2; rw [if_neg hok]
    have HB1 : Hid (∀ e V, NewV n self 0 w1 e V → ∃ E : Int, e = .returned (.tuple #[.pointer none, .int .i64 E])) := fun e V hV => new_bad2 hV hok
    have HB2 : Hid (∀ V e V', RNewV n self 0 V e V' → ∃ E : Int, (E == 0) = false ∧ e = .returned (.tuple #[.agg #[.slice none 0 0], .int .i64 E])) := fun V e V' hV => rnew_bad hV hok
    clear hok
    go_enter Tryz.func5, Tryz.ntmps5
    go_wp2_with (first
      | (go_at_call 11; (with_reducible refine hnw.mono ?_); rintro e u1 hV; obtain ⟨E1, rfl⟩ := HB1.out _ _ hV; have hu1 := hV.1; clear hV)
      | (go_at_call 14; (with_reducible refine (hrn _).mono ?_); rintro e u2 hV; obtain ⟨E2, hE2, rfl⟩ := HB2.out _ _ _ hV; have hu2 := hV.1; clear hV; obtain ⟨u3, hu3⟩ : ∃ u3, u2.alloc (.cells #[.slice none 0 0] 29) = u3 := ⟨_, rfl⟩; have k1 : Hid (u3.heap[u2.heap.size]? = some (.cells #[.slice none 0 0] 29 (0, 0))) := (by rw [← hu3]; exact new_at rfl); have k2 : Hid (Below u2.heap.size u2 u3) := (by rw [← hu3]; exact al1 _ _))
      | (refine wpList_store_row rfl 29 (.tmp 10) (.tmp 22) rfl u2.heap.size #[.slice none 0 0] rfl rfl 29 _ k1.out infoR1 rfl (by simp [Value.oneCell']) ?_; obtain ⟨u4, hu4⟩ : ∃ x, u3.setRow u2.heap.size #[.slice none 0 0] = x := ⟨_, rfl⟩; have j1 : RB u4 u2.heap.size (.slice none 0 0) := (by rw [← hu4]; exact setRow_heap _ _ _ _ _ _ k1.out); have j2 : Hid (Below u2.heap.size u2 u4) := (by rw [← hu4]; exact below_sr k2.out (Nat.le_refl _)); rw [hu4]))
    have hB4 : Below w1.heap.size w1 u4 := bel2 (bel2 hu1 hu2) j2.out
    have hR4 := r1.carry hB4
    rename_i Q0 K0 hK
    refine wp_region_any hmx ?_
    refine wpAny_last 3 (fun i__ => ([(.pointer none), (.agg #[.slice none 0 0]), (.pointer none), undef] : List Value).getD i__ undef) (fun V => Below u4.heap.size u4 V) (fun V => ∃ V0, Below u4.heap.size u4 V0 ∧ V = V0.setCell ⟨w.heap.size, 0, none⟩ (.slice none 0 0)) rfl (by kernel_rfl) (by kernel_rfl) ((Below.refl _ _).drew) ?_ ?_  ?_
    · refine (stepsFrom_cons ?_ (stepsFrom_cons ?_ (stepsFrom_cons ?_ trivial)))
      · exact step_move rfl trivial _ rfl (by kernel_rfl)
      · exact step_load rfl trivial _ _ _ rfl rfl (fun V hw => load_rbw (j1.carry hw))
      · exact step_assign rfl trivial _ rfl (by kernel_rfl) (fun _ h => h)
    · intro o ho
      cases ho
      exact step_store rfl trivial rfl _ _ _ _ _ rfl rfl rfl (fun V hw => ⟨_, store_rb (hR4.carry hw), V, hw, rfl⟩)
    intro W hW
    first | refine hK _ _ ?_ | refine (‹∀ (a : Act) (w : World), Code.wp Tryz.prog _ _ a w → _›) _ _ ?_
    simp only [finL, List.getD_cons_zero, List.getD_cons_succ, Nat.zero_add, Nat.reduceAdd, List.setIfInBounds_toArray, List.set_cons_zero, List.set_cons_succ]
    obtain ⟨V0, hV0, rfl⟩ := hW
    go_wp2
    refine retTR rfl rfl rfl rfl ((hR4.carry hV0).set _) ?_
    rw [HM.out]
    exact ⟨_, _, _, _, rfl, ⟨fun e => absurd rfl e, rfl, Nat.le_refl _, by omega, fun i x hx => (by simp at hx), fun a e => (by cases e), .inl ⟨rfl, rfl, rfl, rfl⟩, fun a e => (by cases e)⟩, (bel2 hb1 (bel2 hB4 hV0)).setCell (Nat.le_refl _) _⟩
  obtain ⟨h1, h2⟩ := hok
  obtain ⟨N, rfl⟩ : ∃ N : Nat, n = (N : Int) := ⟨n.toNat, by omega⟩
  obtain ⟨s, rfl⟩ : ∃ s : Nat, self = (s : Int) := ⟨self.toNat, by omega⟩
  have HM : Hid (mk2 (N : Int) (s : Int) l = mrg (bk0 N s 0) l) := by show _ = _; unfold mk2; rw [if_pos ⟨h1, h2⟩]; rfl
  have HB0 : Hid (Bok (bk0 N s 0)) := bk0_bok (by omega) (by omega)
  have HL0 : Hid ((bk0 N s 0).length = N) := bk0_len _ _ _
  have HOK : Hid (∀ (V : World) (e : Ending), NewV (N : Int) (s : Int) 0 w1 e V → ∃ p g, e = .returned (.tuple #[.pointer (some ⟨p, 0, none⟩), .int .i64 0]) ∧ w1.heap.size ≤ p ∧ w1.heap.size ≤ g ∧ Bk V p g (bk0 N s 0)) := fun V e hV => by simpa using hV.ok h1 h2 (by omega)
  have HRK : Hid (∀ (W V : World) (e : Ending), RNewV (N : Int) (s : Int) 0 W e V → ∃ ad cap, e = .returned (.tuple #[.agg #[.slice ad N cap], .int .i64 0]) ∧ RdN V ad (bk0 N s 0) ∧ N ≤ cap ∧ (∀ a, ad = some a → W.heap.size ≤ a.block ∧ ∃ cur, V.heap[a.block]? = some (.cells cur 61 (0, 0)))) := fun W V e hV => by simpa using hV.ok h1 h2 (by omega)
  have HME : Hid (∀ (W : World) (p g : Nat), Bk W p g (bk0 N s 0) → Below w.heap.size w W → w.heap.size ≤ g → Calls Tryz.prog 15 #[.pointer (some ⟨p, 0, none⟩), .slice ad l.length cap] W fun e w' => (∃ (N : Nat) (E : Int), e = .returned (.tuple #[.agg #[.int .u32 (wd N 0 : Nat), .int .u32 (wd N 1 : Nat), .int .u32 (wd N 2 : Nat), .int .u32 (wd N 3 : Nat)], .int .i64 E])) ∧ Bk w' p g (mrg (bk0 N s 0) l) ∧ W.grownBy w' (some g)) := fun W p g hk hb hg => merge_some hk ad cap l (HW.out.carry hb) (HW.out.ne hg) (by omega)
  have HRM : Hid (∀ (V : World) (a : Option Addr) (c : Nat), RdN V a (bk0 N s 0) → N ≤ c → RdN V ad l → Calls Tryz.prog 16 #[.agg #[.slice a N c], .slice ad l.length cap] V fun e w' => ∃ ad' cap', ∃ (S : Nat) (E : Int), e = .returned (.tuple #[.agg #[.slice ad' N cap'], .agg #[.int .u32 (wd S 0 : Nat), .int .u32 (wd S 1 : Nat), .int .u32 (wd S 2 : Nat), .int .u32 (wd S 3 : Nat)], .int .i64 E]) ∧ RdN w' ad' (mrg (bk0 N s 0) l) ∧ N ≤ cap' ∧ (ad' = a ∨ ∀ x, ad' = some x → V.heap.size ≤ x.block ∧ ∃ cur, w'.heap[x.block]? = some (.cells cur 61 (0, 0))) ∧ Below V.heap.size V w') := fun V a c ha hc hm => rmerge_some a N c (bk0 N s 0) ha HL0.out (by omega) (by omega) hc ad cap l hm (by omega)
  have HBM : Hid (Bok (mrg (bk0 N s 0) l)) := mrg_bok HB0.out _
  have HLM : Hid ((mrg (bk0 N s 0) l).length = N) := (mrg_len HB0.out _).trans HL0.out
  have hN1 : 1 ≤ N := by omega
  have hN2 : N ≤ 100 := by omega
  clear h1 h2
  go_enter Tryz.func5, Tryz.ntmps5
  go_wp2_with (first
    | (go_at_call 11; (with_reducible refine hnw.mono ?_); rintro e u1 hV; obtain ⟨p, g, rfl, hp, hg, hK⟩ := HOK.out _ _ hV; have hu1 := hV.1; clear hV)
    | (go_at_call 14; (with_reducible refine (hrn _).mono ?_); rintro e u2 hV; obtain ⟨adr, capr, rfl, hrd, hcap, hty⟩ := HRK.out _ _ _ hV; have hu2 := hV.1; clear hV; obtain ⟨u3, hu3⟩ : ∃ u3, u2.alloc (.cells #[.slice none 0 0] 29) = u3 := ⟨_, rfl⟩; have k1 : Hid (u3.heap[u2.heap.size]? = some (.cells #[.slice none 0 0] 29 (0, 0))) := (by rw [← hu3]; exact new_at rfl); have k2 : Hid (Below u2.heap.size u2 u3) := (by rw [← hu3]; exact al1 _ _))
    | (have m := k1; refine wpList_store_row rfl 29 (.tmp 10) (.tmp 22) rfl u2.heap.size #[.slice adr N capr] rfl rfl 29 _ k1.out infoR1 rfl (by simp [Value.oneCell']) ?_; obtain ⟨u4, hu4⟩ : ∃ x, u3.setRow u2.heap.size #[.slice adr N capr] = x := ⟨_, rfl⟩; have j1 : RB u4 u2.heap.size (.slice adr N capr) := (by rw [← hu4]; exact setRow_heap _ _ _ _ _ _ k1.out); have j2 : Hid (Below u2.heap.size u2 u4) := (by rw [← hu4]; exact below_sr k2.out (Nat.le_refl _)); rw [hu4]; have hB4 : Below w1.heap.size w1 u4 := bel2 (bel2 hu1 hu2) j2.out; have hK4 := (hK.carry hu2).carry j2.out; have hrd4 := hrd.carry j2.out; have hgl := hK.glt; have hme := HME.out u4 p g hK4 (bel2 hb1 hB4) (Nat.le_trans hb1.size hg); clear m)
    | (go_at_call 15; (with_reducible refine hme.mono ?_); rintro e u5 ⟨⟨S5, E5, rfl⟩, hK5, hg5⟩; have hB5 : Below w1.heap.size w1 u5 := grown_new hB4 hg5 hg; have j5 : RB u5 u2.heap.size (.slice adr N capr) := RB.turn j1 hK4 hg5; have c5 := j5.cell; have hrd5 : RdN u5 adr (bk0 N s 0) := hrd4.turn hg5 (fun _ a e => (by have := (hty a e).1; omega)); have hrm := HRM.out u5 adr capr hrd5 hcap (HW.out.carry (bel2 hb1 hB5)))
    | (go_at_call 16; (with_reducible refine hrm.mono ?_); rintro e u6 ⟨ar, cr, Sm, Er, rfl, hrd6, hcr, hor, hu6⟩; have j6 : RB u6 u2.heap.size (.slice adr N capr) := j5.carry hu6)
    | (have m := j6; refine wpList_store_row rfl 29 (.tmp 10) (.tmp 33) rfl u2.heap.size #[.slice ar N cr] rfl rfl 29 _ j6 infoR1 rfl (by simp [Value.oneCell']) ?_; obtain ⟨u7, hu7⟩ : ∃ x, u6.setRow u2.heap.size #[.slice ar N cr] = x := ⟨_, rfl⟩; rw [hu7]))
  have s2 := hu2.size
  have s4 := j2.out.size
  have s5 := hg5.size
  have s6 := hu6.size
  have sz1 := hu1.size
  have hnA : ∀ a, ar = some a → w1.heap.size ≤ a.block ∧ a.block ≠ g ∧ a.block ≠ u2.heap.size ∧ ∃ cur, u6.heap[a.block]? = some (.cells cur 61 (0, 0)) := fun a e => by
    have hge : g < u1.heap.size := hgl
    rcases hor with hor | hor
    · obtain ⟨ha1, cur, ha2⟩ := hty a (by rw [← hor]; exact e)
      have ha3 := (j2.out.block _ (lt_at ha2)).trans ha2
      have ha4 := (hg5.block _ (lt_at ha3) (by simp; omega)).trans ha3
      exact ⟨by omega, by omega, Nat.ne_of_lt (lt_at ha2), cur, (hu6.block _ (lt_at ha4)).trans ha4⟩
    · obtain ⟨ha1, cur, ha2⟩ := hor a e
      have := lt_at j5
      exact ⟨by omega, by omega, by omega, cur, ha2⟩
  have hB6 : Below w1.heap.size w1 u6 := bel2 hB5 hu6
  have hB7 : Below w1.heap.size w1 u7 := by rw [← hu7]; exact below_sr hB6 (by omega)
  have j7 : RB u7 u2.heap.size (.slice ar N cr) := by rw [← hu7]; exact setRow_heap _ _ _ _ _ _ j6
  have hK7 : Bk u7 p g (mrg (bk0 N s 0) l) := by rw [← hu7]; exact bk_row4 (hK5.carry hu6) j6 _
  have hrd7 : RdN u7 ar (mrg (bk0 N s 0) l) := by rw [← hu7]; exact rd_row _ hrd6 (fun a e => (hnA a e).2.2.1)
  have hR7 := r1.carry hB7
  rename_i Q0 K0 hK'
  refine wp_region_any hmx ?_
  refine wpAny_last 3 (fun i__ => ([(.pointer (some ⟨p, 0, none⟩)), (.agg #[.slice ar N cr]), (.pointer (some ⟨p, 0, none⟩)), undef] : List Value).getD i__ undef) (fun V => Below u7.heap.size u7 V) (fun V => ∃ V0, Below u7.heap.size u7 V0 ∧ V = V0.setCell ⟨w.heap.size, 0, none⟩ (.slice ar N cr)) rfl (by kernel_rfl) (by kernel_rfl) ((Below.refl _ _).drew) ?_ ?_  ?_
  · refine (stepsFrom_cons ?_ (stepsFrom_cons ?_ (stepsFrom_cons ?_ trivial)))
    · exact step_move rfl trivial _ rfl (by kernel_rfl)
    · exact step_load rfl trivial _ _ _ rfl rfl (fun V hw => load_rbw (j7.carry hw))
    · exact step_assign rfl trivial _ rfl (by kernel_rfl) (fun _ h => h)
  · intro o ho
    cases ho
    exact step_store rfl trivial rfl _ _ _ _ _ rfl rfl rfl (fun V hw => ⟨_, store_rb (hR7.carry hw), V, hw, rfl⟩)
  intro W hW
  first | refine hK _ _ ?_ | refine (‹∀ (a : Act) (w : World), Code.wp Tryz.prog _ _ a w → _›) _ _ ?_
  simp only [finL, List.getD_cons_zero, List.getD_cons_succ, Nat.zero_add, Nat.reduceAdd, List.setIfInBounds_toArray, List.set_cons_zero, List.set_cons_succ]
  obtain ⟨V0, hV0, rfl⟩ := hW
  go_wp2
  refine retTR rfl rfl rfl rfl ((hR7.carry hV0).set _) ?_
  rw [HM.out]
  have hty9 : ∀ a, ar = some a → ∃ cur, (V0.setCell ⟨w.heap.size, 0, none⟩ (.slice ar N cr)).heap[a.block]? = some (.cells cur 61 (0, 0)) := fun a e => by
    obtain ⟨h1, h2, h3, cur, h4⟩ := hnA a e
    have h5 : u7.heap[a.block]? = some (.cells cur 61 (0, 0)) := by rw [← hu7]; exact (setRow_other h3).trans h4
    exact ⟨cur, (Below.heap_setCell _ _ _ _ (show a.block ≠ w.heap.size by omega)).trans ((hV0.block _ (lt_at h5)).trans h5)⟩
  refine ⟨_, _, _, _, rfl, ⟨rd_set (hrd7.carry hV0) (fun a e => by have := (hnA a e).1; omega), HLM.out, hcr, hN2, HBM.out, fun a e => Nat.le_trans hb1.size (hnA a e).1, .inr ⟨p, g, rfl, (hK7.carry hV0).cellNe (by omega) (by omega), Nat.le_trans hb1.size hp, Nat.le_trans hb1.size hg, fun a e => (hnA a e).2.1, hN1⟩, fun a e => hty9 a e⟩, (bel2 hb1 (bel2 hB7 hV0)).setCell (Nat.le_refl _) _⟩
end Go.Proofs.YtddblfffjhoiaabGreat
namespace Go.Proofs.YtddblfffjhoiaabGreat
open Go.RowKit Go.Shelf Go.Lib

section
variable {W : World} {bb : Nat}
set_option maxHeartbeats 1000000 in
theorem stillInts_e (h : W.cell? ⟨bb, 0, none⟩ = some (.slice none 0 0)) : Calls Tryz.prog 23 #[.pointer (some ⟨bb, 0, none⟩)] W fun e w' => e = .returned (.bool true) ∧ w' = W := by
  go_enter Tryz.func23, Tryz.ntmps23
  go_wp2
  go_loopw [3] (fun i wz => i = .int .i64 0 ∧ wz = W) (fun _ _ => 0)
  case atStart => exact ⟨rfl, rfl⟩
  case round =>
    obtain ⟨rfl, rfl⟩ := hrel
    go_wp2
    go_ret
    exact ⟨rfl, rfl⟩
set_option maxHeartbeats 1000000 in
theorem putInts_e (h : W.cell? ⟨bb, 0, none⟩ = some (.slice none 0 0)) : Calls Tryz.prog 35 #[.pointer (some ⟨bb, 0, none⟩)] W fun e w' => e = .returned (.tuple #[]) ∧ w' = W := by
  go_enter Tryz.func35, Tryz.ntmps35
  go_wp2
  go_loopw [2] (fun i wz => i = .int .i64 0 ∧ wz = W) (fun _ _ => 0)
  case atStart => exact ⟨rfl, rfl⟩
  case round =>
    obtain ⟨rfl, rfl⟩ := hrel
    go_wp2
    go_end0
    exact ⟨rfl, rfl⟩
set_option maxHeartbeats 1000000 in
theorem growInts_e (h : W.cell? ⟨bb, 0, none⟩ = some (.slice none 0 0)) : Calls Tryz.prog 47 #[.pointer (some ⟨bb, 0, none⟩)] W fun e w' => e = .returned (.slice none 0 0) ∧ w' = W := by
  go_enter Tryz.func47, Tryz.ntmps47
  go_wp2
  go_loopw [3, 4] (fun o i wz => o = .slice none 0 0 ∧ i = .int .i64 0 ∧ wz = W) (fun _ _ _ => 0)
  case atStart => exact ⟨rfl, rfl, rfl⟩
  case round =>
    obtain ⟨rfl, rfl, rfl⟩ := hrel
    go_wp2
    go_ret
    exact ⟨rfl, rfl⟩
set_option maxHeartbeats 1000000 in
theorem markedInts_e (W : World) : Calls Tryz.prog 59 #[.slice none 0 0] W fun e w' => e = .returned (.bool true) ∧ w' = W := by
  go_enter Tryz.func59, Tryz.ntmps59
  go_wp2
  go_loopw [3] (fun i wz => i = .int .i64 0 ∧ wz = W) (fun _ _ => 0)
  case atStart => exact ⟨rfl, rfl⟩
  case round =>
    obtain ⟨rfl, rfl⟩ := hrel
    go_wp2
    go_ret
    exact ⟨rfl, rfl⟩
set_option maxHeartbeats 1000000 in
theorem stillChars_e (h : W.cell? ⟨bb, 2, none⟩ = some (.slice none 0 0)) : Calls Tryz.prog 24 #[.pointer (some ⟨bb, 0, none⟩)] W fun e w' => e = .returned (.bool true) ∧ w' = W := by
  go_enter Tryz.func24, Tryz.ntmps24
  go_wp2
  go_loopw [3] (fun i wz => i = .int .i64 0 ∧ wz = W) (fun _ _ => 0)
  case atStart => exact ⟨rfl, rfl⟩
  case round =>
    obtain ⟨rfl, rfl⟩ := hrel
    go_wp2
    go_ret
    exact ⟨rfl, rfl⟩
set_option maxHeartbeats 1000000 in
theorem putChars_e (h : W.cell? ⟨bb, 2, none⟩ = some (.slice none 0 0)) : Calls Tryz.prog 36 #[.pointer (some ⟨bb, 0, none⟩)] W fun e w' => e = .returned (.tuple #[]) ∧ w' = W := by
  go_enter Tryz.func36, Tryz.ntmps36
  go_wp2
  go_loopw [2] (fun i wz => i = .int .i64 0 ∧ wz = W) (fun _ _ => 0)
  case atStart => exact ⟨rfl, rfl⟩
  case round =>
    obtain ⟨rfl, rfl⟩ := hrel
    go_wp2
    go_end0
    exact ⟨rfl, rfl⟩
set_option maxHeartbeats 1000000 in
theorem growChars_e (h : W.cell? ⟨bb, 2, none⟩ = some (.slice none 0 0)) : Calls Tryz.prog 48 #[.pointer (some ⟨bb, 0, none⟩)] W fun e w' => e = .returned (.slice none 0 0) ∧ w' = W := by
  go_enter Tryz.func48, Tryz.ntmps48
  go_wp2
  go_loopw [3, 4] (fun o i wz => o = .slice none 0 0 ∧ i = .int .i64 0 ∧ wz = W) (fun _ _ _ => 0)
  case atStart => exact ⟨rfl, rfl, rfl⟩
  case round =>
    obtain ⟨rfl, rfl, rfl⟩ := hrel
    go_wp2
    go_ret
    exact ⟨rfl, rfl⟩
set_option maxHeartbeats 1000000 in
theorem markedChars_e (W : World) : Calls Tryz.prog 60 #[.slice none 0 0] W fun e w' => e = .returned (.bool true) ∧ w' = W := by
  go_enter Tryz.func60, Tryz.ntmps60
  go_wp2
  go_loopw [3] (fun i wz => i = .int .i64 0 ∧ wz = W) (fun _ _ => 0)
  case atStart => exact ⟨rfl, rfl⟩
  case round =>
    obtain ⟨rfl, rfl⟩ := hrel
    go_wp2
    go_ret
    exact ⟨rfl, rfl⟩
set_option maxHeartbeats 1000000 in
theorem stillTokens_e (h : W.cell? ⟨bb, 4, none⟩ = some (.slice none 0 0)) : Calls Tryz.prog 25 #[.pointer (some ⟨bb, 0, none⟩)] W fun e w' => e = .returned (.bool true) ∧ w' = W := by
  go_enter Tryz.func25, Tryz.ntmps25
  go_wp2
  go_loopw [3] (fun i wz => i = .int .i64 0 ∧ wz = W) (fun _ _ => 0)
  case atStart => exact ⟨rfl, rfl⟩
  case round =>
    obtain ⟨rfl, rfl⟩ := hrel
    go_wp2
    go_ret
    exact ⟨rfl, rfl⟩
set_option maxHeartbeats 1000000 in
theorem putTokens_e (h : W.cell? ⟨bb, 4, none⟩ = some (.slice none 0 0)) : Calls Tryz.prog 37 #[.pointer (some ⟨bb, 0, none⟩)] W fun e w' => e = .returned (.tuple #[]) ∧ w' = W := by
  go_enter Tryz.func37, Tryz.ntmps37
  go_wp2
  go_loopw [2] (fun i wz => i = .int .i64 0 ∧ wz = W) (fun _ _ => 0)
  case atStart => exact ⟨rfl, rfl⟩
  case round =>
    obtain ⟨rfl, rfl⟩ := hrel
    go_wp2
    go_end0
    exact ⟨rfl, rfl⟩
set_option maxHeartbeats 1000000 in
theorem growTokens_e (h : W.cell? ⟨bb, 4, none⟩ = some (.slice none 0 0)) : Calls Tryz.prog 49 #[.pointer (some ⟨bb, 0, none⟩)] W fun e w' => e = .returned (.slice none 0 0) ∧ w' = W := by
  go_enter Tryz.func49, Tryz.ntmps49
  go_wp2
  go_loopw [3, 4] (fun o i wz => o = .slice none 0 0 ∧ i = .int .i64 0 ∧ wz = W) (fun _ _ _ => 0)
  case atStart => exact ⟨rfl, rfl, rfl⟩
  case round =>
    obtain ⟨rfl, rfl, rfl⟩ := hrel
    go_wp2
    go_ret
    exact ⟨rfl, rfl⟩
set_option maxHeartbeats 1000000 in
theorem markedTokens_e (W : World) : Calls Tryz.prog 61 #[.slice none 0 0] W fun e w' => e = .returned (.bool true) ∧ w' = W := by
  go_enter Tryz.func61, Tryz.ntmps61
  go_wp2
  go_loopw [3] (fun i wz => i = .int .i64 0 ∧ wz = W) (fun _ _ => 0)
  case atStart => exact ⟨rfl, rfl⟩
  case round =>
    obtain ⟨rfl, rfl⟩ := hrel
    go_wp2
    go_ret
    exact ⟨rfl, rfl⟩
set_option maxHeartbeats 1000000 in
theorem stillBytes_e (h : W.cell? ⟨bb, 8, none⟩ = some (.slice none 0 0)) : Calls Tryz.prog 27 #[.pointer (some ⟨bb, 0, none⟩)] W fun e w' => e = .returned (.bool true) ∧ w' = W := by
  go_enter Tryz.func27, Tryz.ntmps27
  go_wp2
  go_loopw [3] (fun i wz => i = .int .i64 0 ∧ wz = W) (fun _ _ => 0)
  case atStart => exact ⟨rfl, rfl⟩
  case round =>
    obtain ⟨rfl, rfl⟩ := hrel
    go_wp2
    go_ret
    exact ⟨rfl, rfl⟩
set_option maxHeartbeats 1000000 in
theorem putBytes_e (h : W.cell? ⟨bb, 8, none⟩ = some (.slice none 0 0)) : Calls Tryz.prog 39 #[.pointer (some ⟨bb, 0, none⟩)] W fun e w' => e = .returned (.tuple #[]) ∧ w' = W := by
  go_enter Tryz.func39, Tryz.ntmps39
  go_wp2
  go_loopw [2] (fun i wz => i = .int .i64 0 ∧ wz = W) (fun _ _ => 0)
  case atStart => exact ⟨rfl, rfl⟩
  case round =>
    obtain ⟨rfl, rfl⟩ := hrel
    go_wp2
    go_end0
    exact ⟨rfl, rfl⟩
set_option maxHeartbeats 1000000 in
theorem growBytes_e (h : W.cell? ⟨bb, 8, none⟩ = some (.slice none 0 0)) : Calls Tryz.prog 51 #[.pointer (some ⟨bb, 0, none⟩)] W fun e w' => e = .returned (.slice none 0 0) ∧ w' = W := by
  go_enter Tryz.func51, Tryz.ntmps51
  go_wp2
  go_loopw [3, 4] (fun o i wz => o = .slice none 0 0 ∧ i = .int .i64 0 ∧ wz = W) (fun _ _ _ => 0)
  case atStart => exact ⟨rfl, rfl, rfl⟩
  case round =>
    obtain ⟨rfl, rfl, rfl⟩ := hrel
    go_wp2
    go_ret
    exact ⟨rfl, rfl⟩
set_option maxHeartbeats 1000000 in
theorem markedBytes_e (W : World) : Calls Tryz.prog 63 #[.slice none 0 0] W fun e w' => e = .returned (.bool true) ∧ w' = W := by
  go_enter Tryz.func63, Tryz.ntmps63
  go_wp2
  go_loopw [3] (fun i wz => i = .int .i64 0 ∧ wz = W) (fun _ _ => 0)
  case atStart => exact ⟨rfl, rfl⟩
  case round =>
    obtain ⟨rfl, rfl⟩ := hrel
    go_wp2
    go_ret
    exact ⟨rfl, rfl⟩
set_option maxHeartbeats 1000000 in
theorem stillSets_e (h : W.cell? ⟨bb, 10, none⟩ = some (.slice none 0 0)) : Calls Tryz.prog 28 #[.pointer (some ⟨bb, 0, none⟩)] W fun e w' => e = .returned (.bool true) ∧ w' = W := by
  go_enter Tryz.func28, Tryz.ntmps28
  go_wp2
  go_loopw [3] (fun i wz => i = .int .i64 0 ∧ wz = W) (fun _ _ => 0)
  case atStart => exact ⟨rfl, rfl⟩
  case round =>
    obtain ⟨rfl, rfl⟩ := hrel
    go_wp2
    go_ret
    exact ⟨rfl, rfl⟩
set_option maxHeartbeats 1000000 in
theorem putSets_e (h : W.cell? ⟨bb, 10, none⟩ = some (.slice none 0 0)) : Calls Tryz.prog 40 #[.pointer (some ⟨bb, 0, none⟩)] W fun e w' => e = .returned (.tuple #[]) ∧ w' = W := by
  go_enter Tryz.func40, Tryz.ntmps40
  go_wp2
  go_loopw [2] (fun i wz => i = .int .i64 0 ∧ wz = W) (fun _ _ => 0)
  case atStart => exact ⟨rfl, rfl⟩
  case round =>
    obtain ⟨rfl, rfl⟩ := hrel
    go_wp2
    go_end0
    exact ⟨rfl, rfl⟩
set_option maxHeartbeats 1000000 in
theorem growSets_e (h : W.cell? ⟨bb, 10, none⟩ = some (.slice none 0 0)) : Calls Tryz.prog 52 #[.pointer (some ⟨bb, 0, none⟩)] W fun e w' => e = .returned (.slice none 0 0) ∧ w' = W := by
  go_enter Tryz.func52, Tryz.ntmps52
  go_wp2
  go_loopw [3, 4] (fun o i wz => o = .slice none 0 0 ∧ i = .int .i64 0 ∧ wz = W) (fun _ _ _ => 0)
  case atStart => exact ⟨rfl, rfl, rfl⟩
  case round =>
    obtain ⟨rfl, rfl, rfl⟩ := hrel
    go_wp2
    go_ret
    exact ⟨rfl, rfl⟩
set_option maxHeartbeats 1000000 in
theorem markedSets_e (W : World) : Calls Tryz.prog 64 #[.slice none 0 0] W fun e w' => e = .returned (.bool true) ∧ w' = W := by
  go_enter Tryz.func64, Tryz.ntmps64
  go_wp2
  go_loopw [3] (fun i wz => i = .int .i64 0 ∧ wz = W) (fun _ _ => 0)
  case atStart => exact ⟨rfl, rfl⟩
  case round =>
    obtain ⟨rfl, rfl⟩ := hrel
    go_wp2
    go_ret
    exact ⟨rfl, rfl⟩
set_option maxHeartbeats 1000000 in
theorem stillEvents_e (h : W.cell? ⟨bb, 12, none⟩ = some (.slice none 0 0)) : Calls Tryz.prog 29 #[.pointer (some ⟨bb, 0, none⟩)] W fun e w' => e = .returned (.bool true) ∧ w' = W := by
  go_enter Tryz.func29, Tryz.ntmps29
  go_wp2
  go_loopw [3] (fun i wz => i = .int .i64 0 ∧ wz = W) (fun _ _ => 0)
  case atStart => exact ⟨rfl, rfl⟩
  case round =>
    obtain ⟨rfl, rfl⟩ := hrel
    go_wp2
    go_ret
    exact ⟨rfl, rfl⟩
set_option maxHeartbeats 1000000 in
theorem putEvents_e (h : W.cell? ⟨bb, 12, none⟩ = some (.slice none 0 0)) : Calls Tryz.prog 41 #[.pointer (some ⟨bb, 0, none⟩)] W fun e w' => e = .returned (.tuple #[]) ∧ w' = W := by
  go_enter Tryz.func41, Tryz.ntmps41
  go_wp2
  go_loopw [2] (fun i wz => i = .int .i64 0 ∧ wz = W) (fun _ _ => 0)
  case atStart => exact ⟨rfl, rfl⟩
  case round =>
    obtain ⟨rfl, rfl⟩ := hrel
    go_wp2
    go_end0
    exact ⟨rfl, rfl⟩
set_option maxHeartbeats 1000000 in
theorem growEvents_e (h : W.cell? ⟨bb, 12, none⟩ = some (.slice none 0 0)) : Calls Tryz.prog 53 #[.pointer (some ⟨bb, 0, none⟩)] W fun e w' => e = .returned (.slice none 0 0) ∧ w' = W := by
  go_enter Tryz.func53, Tryz.ntmps53
  go_wp2
  go_loopw [3, 4] (fun o i wz => o = .slice none 0 0 ∧ i = .int .i64 0 ∧ wz = W) (fun _ _ _ => 0)
  case atStart => exact ⟨rfl, rfl, rfl⟩
  case round =>
    obtain ⟨rfl, rfl, rfl⟩ := hrel
    go_wp2
    go_ret
    exact ⟨rfl, rfl⟩
set_option maxHeartbeats 1000000 in
theorem markedEvents_e (W : World) : Calls Tryz.prog 65 #[.slice none 0 0] W fun e w' => e = .returned (.bool true) ∧ w' = W := by
  go_enter Tryz.func65, Tryz.ntmps65
  go_wp2
  go_loopw [3] (fun i wz => i = .int .i64 0 ∧ wz = W) (fun _ _ => 0)
  case atStart => exact ⟨rfl, rfl⟩
  case round =>
    obtain ⟨rfl, rfl⟩ := hrel
    go_wp2
    go_ret
    exact ⟨rfl, rfl⟩
set_option maxHeartbeats 1000000 in
theorem stillErrs_e (h : W.cell? ⟨bb, 14, none⟩ = some (.slice none 0 0)) : Calls Tryz.prog 30 #[.pointer (some ⟨bb, 0, none⟩)] W fun e w' => e = .returned (.bool true) ∧ w' = W := by
  go_enter Tryz.func30, Tryz.ntmps30
  go_wp2
  go_loopw [3] (fun i wz => i = .int .i64 0 ∧ wz = W) (fun _ _ => 0)
  case atStart => exact ⟨rfl, rfl⟩
  case round =>
    obtain ⟨rfl, rfl⟩ := hrel
    go_wp2
    go_ret
    exact ⟨rfl, rfl⟩
set_option maxHeartbeats 1000000 in
theorem putErrs_e (h : W.cell? ⟨bb, 14, none⟩ = some (.slice none 0 0)) : Calls Tryz.prog 42 #[.pointer (some ⟨bb, 0, none⟩)] W fun e w' => e = .returned (.tuple #[]) ∧ w' = W := by
  go_enter Tryz.func42, Tryz.ntmps42
  go_wp2
  go_loopw [2] (fun i wz => i = .int .i64 0 ∧ wz = W) (fun _ _ => 0)
  case atStart => exact ⟨rfl, rfl⟩
  case round =>
    obtain ⟨rfl, rfl⟩ := hrel
    go_wp2
    go_end0
    exact ⟨rfl, rfl⟩
set_option maxHeartbeats 1000000 in
theorem growErrs_e (h : W.cell? ⟨bb, 14, none⟩ = some (.slice none 0 0)) : Calls Tryz.prog 54 #[.pointer (some ⟨bb, 0, none⟩)] W fun e w' => e = .returned (.slice none 0 0) ∧ w' = W := by
  go_enter Tryz.func54, Tryz.ntmps54
  go_wp2
  go_loopw [3, 4] (fun o i wz => o = .slice none 0 0 ∧ i = .int .i64 0 ∧ wz = W) (fun _ _ _ => 0)
  case atStart => exact ⟨rfl, rfl, rfl⟩
  case round =>
    obtain ⟨rfl, rfl, rfl⟩ := hrel
    go_wp2
    go_ret
    exact ⟨rfl, rfl⟩
set_option maxHeartbeats 1000000 in
theorem markedErrs_e (W : World) : Calls Tryz.prog 66 #[.slice none 0 0] W fun e w' => e = .returned (.bool true) ∧ w' = W := by
  go_enter Tryz.func66, Tryz.ntmps66
  go_wp2
  go_loopw [3] (fun i wz => i = .int .i64 0 ∧ wz = W) (fun _ _ => 0)
  case atStart => exact ⟨rfl, rfl⟩
  case round =>
    obtain ⟨rfl, rfl⟩ := hrel
    go_wp2
    go_ret
    exact ⟨rfl, rfl⟩
set_option maxHeartbeats 1000000 in
theorem stillOuts_e (h : W.cell? ⟨bb, 16, none⟩ = some (.slice none 0 0)) : Calls Tryz.prog 31 #[.pointer (some ⟨bb, 0, none⟩)] W fun e w' => e = .returned (.bool true) ∧ w' = W := by
  go_enter Tryz.func31, Tryz.ntmps31
  go_wp2
  go_loopw [3] (fun i wz => i = .int .i64 0 ∧ wz = W) (fun _ _ => 0)
  case atStart => exact ⟨rfl, rfl⟩
  case round =>
    obtain ⟨rfl, rfl⟩ := hrel
    go_wp2
    go_ret
    exact ⟨rfl, rfl⟩
set_option maxHeartbeats 1000000 in
theorem putOuts_e (h : W.cell? ⟨bb, 16, none⟩ = some (.slice none 0 0)) : Calls Tryz.prog 43 #[.pointer (some ⟨bb, 0, none⟩)] W fun e w' => e = .returned (.tuple #[]) ∧ w' = W := by
  go_enter Tryz.func43, Tryz.ntmps43
  go_wp2
  go_loopw [2] (fun i wz => i = .int .i64 0 ∧ wz = W) (fun _ _ => 0)
  case atStart => exact ⟨rfl, rfl⟩
  case round =>
    obtain ⟨rfl, rfl⟩ := hrel
    go_wp2
    go_end0
    exact ⟨rfl, rfl⟩
set_option maxHeartbeats 1000000 in
theorem growOuts_e (h : W.cell? ⟨bb, 16, none⟩ = some (.slice none 0 0)) : Calls Tryz.prog 55 #[.pointer (some ⟨bb, 0, none⟩)] W fun e w' => e = .returned (.slice none 0 0) ∧ w' = W := by
  go_enter Tryz.func55, Tryz.ntmps55
  go_wp2
  go_loopw [3, 4] (fun o i wz => o = .slice none 0 0 ∧ i = .int .i64 0 ∧ wz = W) (fun _ _ _ => 0)
  case atStart => exact ⟨rfl, rfl, rfl⟩
  case round =>
    obtain ⟨rfl, rfl, rfl⟩ := hrel
    go_wp2
    go_ret
    exact ⟨rfl, rfl⟩
set_option maxHeartbeats 1000000 in
theorem markedOuts_e (W : World) : Calls Tryz.prog 67 #[.slice none 0 0] W fun e w' => e = .returned (.bool true) ∧ w' = W := by
  go_enter Tryz.func67, Tryz.ntmps67
  go_wp2
  go_loopw [3] (fun i wz => i = .int .i64 0 ∧ wz = W) (fun _ _ => 0)
  case atStart => exact ⟨rfl, rfl⟩
  case round =>
    obtain ⟨rfl, rfl⟩ := hrel
    go_wp2
    go_ret
    exact ⟨rfl, rfl⟩
set_option maxHeartbeats 1000000 in
theorem stillGrams_e (h : W.cell? ⟨bb, 18, none⟩ = some (.slice none 0 0)) : Calls Tryz.prog 32 #[.pointer (some ⟨bb, 0, none⟩)] W fun e w' => e = .returned (.bool true) ∧ w' = W := by
  go_enter Tryz.func32, Tryz.ntmps32
  go_wp2
  go_loopw [3] (fun i wz => i = .int .i64 0 ∧ wz = W) (fun _ _ => 0)
  case atStart => exact ⟨rfl, rfl⟩
  case round =>
    obtain ⟨rfl, rfl⟩ := hrel
    go_wp2
    go_ret
    exact ⟨rfl, rfl⟩
set_option maxHeartbeats 1000000 in
theorem putGrams_e (h : W.cell? ⟨bb, 18, none⟩ = some (.slice none 0 0)) : Calls Tryz.prog 44 #[.pointer (some ⟨bb, 0, none⟩)] W fun e w' => e = .returned (.tuple #[]) ∧ w' = W := by
  go_enter Tryz.func44, Tryz.ntmps44
  go_wp2
  go_loopw [2] (fun i wz => i = .int .i64 0 ∧ wz = W) (fun _ _ => 0)
  case atStart => exact ⟨rfl, rfl⟩
  case round =>
    obtain ⟨rfl, rfl⟩ := hrel
    go_wp2
    go_end0
    exact ⟨rfl, rfl⟩
set_option maxHeartbeats 1000000 in
theorem growGrams_e (h : W.cell? ⟨bb, 18, none⟩ = some (.slice none 0 0)) : Calls Tryz.prog 56 #[.pointer (some ⟨bb, 0, none⟩)] W fun e w' => e = .returned (.slice none 0 0) ∧ w' = W := by
  go_enter Tryz.func56, Tryz.ntmps56
  go_wp2
  go_loopw [3, 4] (fun o i wz => o = .slice none 0 0 ∧ i = .int .i64 0 ∧ wz = W) (fun _ _ _ => 0)
  case atStart => exact ⟨rfl, rfl, rfl⟩
  case round =>
    obtain ⟨rfl, rfl, rfl⟩ := hrel
    go_wp2
    go_ret
    exact ⟨rfl, rfl⟩
set_option maxHeartbeats 1000000 in
theorem markedGrams_e (W : World) : Calls Tryz.prog 68 #[.slice none 0 0] W fun e w' => e = .returned (.bool true) ∧ w' = W := by
  go_enter Tryz.func68, Tryz.ntmps68
  go_wp2
  go_loopw [3] (fun i wz => i = .int .i64 0 ∧ wz = W) (fun _ _ => 0)
  case atStart => exact ⟨rfl, rfl⟩
  case round =>
    obtain ⟨rfl, rfl⟩ := hrel
    go_wp2
    go_ret
    exact ⟨rfl, rfl⟩
set_option maxHeartbeats 1000000 in
theorem stillSteps_e (h : W.cell? ⟨bb, 20, none⟩ = some (.slice none 0 0)) : Calls Tryz.prog 33 #[.pointer (some ⟨bb, 0, none⟩)] W fun e w' => e = .returned (.bool true) ∧ w' = W := by
  go_enter Tryz.func33, Tryz.ntmps33
  go_wp2
  go_loopw [3] (fun i wz => i = .int .i64 0 ∧ wz = W) (fun _ _ => 0)
  case atStart => exact ⟨rfl, rfl⟩
  case round =>
    obtain ⟨rfl, rfl⟩ := hrel
    go_wp2
    go_ret
    exact ⟨rfl, rfl⟩
set_option maxHeartbeats 1000000 in
theorem putSteps_e (h : W.cell? ⟨bb, 20, none⟩ = some (.slice none 0 0)) : Calls Tryz.prog 45 #[.pointer (some ⟨bb, 0, none⟩)] W fun e w' => e = .returned (.tuple #[]) ∧ w' = W := by
  go_enter Tryz.func45, Tryz.ntmps45
  go_wp2
  go_loopw [2] (fun i wz => i = .int .i64 0 ∧ wz = W) (fun _ _ => 0)
  case atStart => exact ⟨rfl, rfl⟩
  case round =>
    obtain ⟨rfl, rfl⟩ := hrel
    go_wp2
    go_end0
    exact ⟨rfl, rfl⟩
set_option maxHeartbeats 1000000 in
theorem growSteps_e (h : W.cell? ⟨bb, 20, none⟩ = some (.slice none 0 0)) : Calls Tryz.prog 57 #[.pointer (some ⟨bb, 0, none⟩)] W fun e w' => e = .returned (.slice none 0 0) ∧ w' = W := by
  go_enter Tryz.func57, Tryz.ntmps57
  go_wp2
  go_loopw [3, 4] (fun o i wz => o = .slice none 0 0 ∧ i = .int .i64 0 ∧ wz = W) (fun _ _ _ => 0)
  case atStart => exact ⟨rfl, rfl, rfl⟩
  case round =>
    obtain ⟨rfl, rfl, rfl⟩ := hrel
    go_wp2
    go_ret
    exact ⟨rfl, rfl⟩
set_option maxHeartbeats 1000000 in
theorem markedSteps_e (W : World) : Calls Tryz.prog 69 #[.slice none 0 0] W fun e w' => e = .returned (.bool true) ∧ w' = W := by
  go_enter Tryz.func69, Tryz.ntmps69
  go_wp2
  go_loopw [3] (fun i wz => i = .int .i64 0 ∧ wz = W) (fun _ _ => 0)
  case atStart => exact ⟨rfl, rfl⟩
  case round =>
    obtain ⟨rfl, rfl⟩ := hrel
    go_wp2
    go_ret
    exact ⟨rfl, rfl⟩
set_option maxHeartbeats 1000000 in
theorem stillRows_e (h : W.cell? ⟨bb, 22, none⟩ = some (.slice none 0 0)) : Calls Tryz.prog 34 #[.pointer (some ⟨bb, 0, none⟩)] W fun e w' => e = .returned (.bool true) ∧ w' = W := by
  go_enter Tryz.func34, Tryz.ntmps34
  go_wp2
  go_loopw [3] (fun i wz => i = .int .i64 0 ∧ wz = W) (fun _ _ => 0)
  case atStart => exact ⟨rfl, rfl⟩
  case round =>
    obtain ⟨rfl, rfl⟩ := hrel
    go_wp2
    go_ret
    exact ⟨rfl, rfl⟩
set_option maxHeartbeats 1000000 in
theorem putRows_e (h : W.cell? ⟨bb, 22, none⟩ = some (.slice none 0 0)) : Calls Tryz.prog 46 #[.pointer (some ⟨bb, 0, none⟩)] W fun e w' => e = .returned (.tuple #[]) ∧ w' = W := by
  go_enter Tryz.func46, Tryz.ntmps46
  go_wp2
  go_loopw [2] (fun i wz => i = .int .i64 0 ∧ wz = W) (fun _ _ => 0)
  case atStart => exact ⟨rfl, rfl⟩
  case round =>
    obtain ⟨rfl, rfl⟩ := hrel
    go_wp2
    go_end0
    exact ⟨rfl, rfl⟩
set_option maxHeartbeats 1000000 in
theorem growRows_e (h : W.cell? ⟨bb, 22, none⟩ = some (.slice none 0 0)) : Calls Tryz.prog 58 #[.pointer (some ⟨bb, 0, none⟩)] W fun e w' => e = .returned (.slice none 0 0) ∧ w' = W := by
  go_enter Tryz.func58, Tryz.ntmps58
  go_wp2
  go_loopw [3, 4] (fun o i wz => o = .slice none 0 0 ∧ i = .int .i64 0 ∧ wz = W) (fun _ _ _ => 0)
  case atStart => exact ⟨rfl, rfl, rfl⟩
  case round =>
    obtain ⟨rfl, rfl, rfl⟩ := hrel
    go_wp2
    go_ret
    exact ⟨rfl, rfl⟩
set_option maxHeartbeats 1000000 in
theorem markedRows_e (W : World) : Calls Tryz.prog 70 #[.slice none 0 0] W fun e w' => e = .returned (.bool true) ∧ w' = W := by
  go_enter Tryz.func70, Tryz.ntmps70
  go_wp2
  go_loopw [3] (fun i wz => i = .int .i64 0 ∧ wz = W) (fun _ _ => 0)
  case atStart => exact ⟨rfl, rfl⟩
  case round =>
    obtain ⟨rfl, rfl⟩ := hrel
    go_wp2
    go_ret
    exact ⟨rfl, rfl⟩
end
end Go.Proofs.YtddblfffjhoiaabGreat
namespace Go.Proofs.YtddblfffjhoiaabGreat
open Go.RowKit Go.Shelf

end Go.Proofs.YtddblfffjhoiaabGreat
