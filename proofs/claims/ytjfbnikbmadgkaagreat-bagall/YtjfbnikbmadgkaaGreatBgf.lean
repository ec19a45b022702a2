/- bag's Send, At, Take: what they answer. -/
import Derived.Test.YtjfbnikbmadgkaaGreatBge
namespace Go.Proofs.YtjfbnikbmadgkaaGreat
open Go.RowKit Go.Shelf

section
variable {w : World} {base p : Nat} {ad : Option Addr} {cap : Nat} {room last : Int} {ps : List Nat} {l : List Gr}
def sSend (room last : Int) (l : List Gr) (f t : Int) (d : List Nat) : Int × Int × Int × List Gr := if 1024 < d.length then (0, 2, last, l) else sAdd room last l f t d
set_option maxHeartbeats 1000000 in
set_option maxRecDepth 100000 in
theorem send_any {σ : Nat → Prop} (h : Bg σ w base p ad cap room last ps l) (f t : Int) (adD : Option Addr) (capD : Nat) (d : List Nat) (hd : RdB w adD d) (hne : d ≠ [] → ∀ a, adD = some a → a.block ≠ p) (hby : Byt d) (h0 : 0 ≤ last) (h1 : last < 4611686018427387904) : Calls Tryz.prog 10 #[.pointer (some ⟨p, 0, none⟩), .int .i64 f, .int .i64 t, .slice adD d.length capD] w fun e w' => e = .returned (.tuple #[.int .i64 (sSend room last l f t d).1, .int .i64 (sSend room last l f t d).2.1]) ∧ ∃ ad' cap' ps', Bg σ w' base p ad' cap' room (sSend room last l f t d).2.2.1 ps' (sSend room last l f t d).2.2.2 ∧ Tn p (ob ad) (ob ad') w w' := by
  unfold sSend
  by_cases hl : 1024 < d.length
  · rw [if_pos hl]
    have hli : (d.length : Int) > 1024 := by omega
    go_enter Tryz.func10, Tryz.ntmps10
    go_wp2
    go_ret2
    exact ⟨rfl, ad, cap, ps, h, Tn.of p _ (Below.refl _ _)⟩
  · rw [if_neg hl]
    have hli : ¬ (d.length : Int) > 1024 := by omega
    have ha := add_any h f t adD capD d hd hne hby (by omega) h0 h1
    generalize sAdd room last l f t d = r at *
    obtain ⟨r1, r2, r3, r4⟩ := r
    dsimp only at ha ⊢
    go_enter Tryz.func10, Tryz.ntmps10
    go_wp2_with (go_at_call 79; (with_reducible refine ha.mono ?_); rintro e u1 ⟨rfl, ad', cap', ps', hB, hT⟩)
    go_ret2
    exact ⟨rfl, ad', cap', ps', hB, hT⟩
theorem rfs_1no {n i : Int} (h : ¬ (0 ≤ i ∧ i < n)) : rfs n [i] = 91 := if_pos (by omega)
theorem rfs_1ok {n i : Int} (h : 0 ≤ i ∧ i < n) : rfs n [i] = 0 := if_neg (by omega)
theorem bsI1 (W : World) (i : Int) : (Instr.buildSlice 116 1 #[(0, .int .i64 i)]).run Tryz.prog W = .ok (.slice (some ⟨W.heap.size, 0, none⟩) 1 1) (W.alloc (.cells #[.int .i64 i] 3)) := by go_simp
/-- refuse of one place, in a world where it has been laid. -/
theorem refuse_1 {σ : Nat → Prop} (h : Bg σ w base p ad cap room last ps l) (i : Int) {V : World} (hV : w.alloc (.cells #[.int .i64 i] 3) = V) : Calls Tryz.prog 80 #[.pointer (some ⟨p, 0, none⟩), .slice (some ⟨w.heap.size, 0, none⟩) 1 1] V fun e w' => e = .returned (.int .i64 (rfs (l.length : Int) [i])) ∧ w' = V := by
  subst hV
  refine refuse_any (h.carry (al1' _ _)) w.heap.size [i] 1 (fun k j hk => ?_) (by simp)
  match k, hk with
  | 0, hk =>
    simp at hk
    subst hk
    exact cell_at (new_at rfl) 0
def g0 : Gr := (0, 0, 0, [])
def sAt (l : List Gr) (i : Int) : Gr × Int := if 0 ≤ i ∧ i < (l.length : Int) then ((l[i.toNat]?).getD g0, 0) else (g0, 91)
theorem sAt_ok {l : List Gr} {k : Nat} {x : Gr} (h : l[k]? = some x) : sAt l (k : Int) = (x, 0) := by
  have h1 := (List.getElem?_eq_some_iff.1 h).1
  rw [sAt, if_pos (by omega), Int.toNat_natCast, h]
  rfl
theorem sAt_no {l : List Gr} {i : Int} (h : ¬ (0 ≤ i ∧ i < (l.length : Int))) : sAt l i = (g0, 91) := if_neg h
/-- The datagram at a place. -/
theorem Bg.get {σ : Nat → Prop} (h : Bg σ w base p ad cap room last ps l) {i : Int} (hi : 0 ≤ i ∧ i < (l.length : Int)) : ∃ (k q g : Nat) (x : Gr), i = (k : Int) ∧ ps[k]? = some q ∧ l[k]? = some x ∧ GmAt σ w q x ∧ ad = some ⟨g, 0, none⟩ ∧ k < ps.length ∧ ps.length ≤ cap := by
  obtain ⟨k, rfl⟩ := Int.eq_ofNat_of_zero_le hi.1
  have hk : k < l.length := by omega
  have hk2 : k < ps.length := by have := h.len; omega
  obtain ⟨x, hx⟩ : ∃ x, l[k]? = some x := ⟨_, List.getElem?_eq_getElem hk⟩
  obtain ⟨q, hq⟩ : ∃ q, ps[k]? = some q := ⟨_, List.getElem?_eq_getElem hk2⟩
  rcases own_form h.row with ⟨e1, e2⟩ | ⟨g, c, e1, e2, _, e4, _⟩
  · omega
  · simp only [Value.slice.injEq] at e1
    exact ⟨k, q, g, x, rfl, hq, hx, h.gr k q x hq hx, e1.1, hk2, by rw [e1.2.2]; exact e4⟩
theorem go0 (W : World) : (Instr.alloc 62 true (.tuple #[])).run Tryz.prog W = .ok (.pointer (some ⟨W.heap.size, 0, none⟩)) (W.alloc (.cells #[.int .i64 0, .int .i64 0, .int .i64 0, .slice none 0 0] 62)) := by go_simp
set_option maxHeartbeats 2000000 in
set_option maxRecDepth 100000 in
theorem at_any {σ : Nat → Prop} (h : Bg σ w base p ad cap room last ps l) (i : Int) : Calls Tryz.prog 11 #[.pointer (some ⟨p, 0, none⟩), .int .i64 i] w fun e w' => ∃ a c, e = .returned (.tuple #[gV (sAt l i).1 a c, .int .i64 (sAt l i).2]) ∧ w'.ownsRow w.heap.size 5 1 (.slice a (sAt l i).1.2.2.2.length c) (sAt l i).1.2.2.2.length (cB (sAt l i).1.2.2.2) ∧ Below w.heap.size w w' := by
  obtain ⟨w1, hw1⟩ : ∃ w1, w.alloc (.cells #[.int .i64 0, .int .i64 0, .int .i64 0, .slice none 0 0] 62) = w1 := ⟨_, rfl⟩
  have hb1 : Below w.heap.size w w1 := by rw [← hw1]; exact al1' _ _
  have hz1 : w1.heap.size = w.heap.size + 1 := by rw [← hw1]; simp
  have hG1 : GB w1 w.heap.size 0 0 0 (.slice none 0 0) := by rw [← hw1]; exact new_at rfl
  obtain ⟨V, hV⟩ : ∃ V, w1.alloc (.cells #[.int .i64 i] 3) = V := ⟨_, rfl⟩
  have hbV : Below w1.heap.size w1 V := by rw [← hV]; exact al1' _ _
  have hrf := refuse_1 (h.carry hb1) i hV
  rw [hz1] at hrf
  have hB := (h.carry hb1).carry hbV
  have hGV := hG1.carry hbV
  have hbb : Below w.heap.size w V := bel2 hb1 hbV
  by_cases hi : 0 ≤ i ∧ i < (l.length : Int)
  · obtain ⟨k, q, g, x, rfl, hq, hx, hgm, rfl, hk, hc⟩ := hB.get hi
    rw [rfs_1ok hi] at hrf
    rw [sAt_ok hx]
    have c2 := hB.c2
    have cq := hB.at hq
    unfold pt at cq
    have hix := idx_p g ps.length cap k hk
    have hto := told_any hgm
    obtain ⟨xi, xf, xt, xd⟩ := x
    unfold gV at hto ⊢
    dsimp only at hto ⊢
    clear hi hx hG1 hq
    go_enter Tryz.func11, Tryz.ntmps11
    go_wp2_with (first | (go_at_call 80; (with_reducible refine hrf.mono ?_); rintro e u1 ⟨rfl, rfl⟩) | (go_at_call 81; (with_reducible refine hto.mono ?_); rintro e u2 ⟨a, c, rfl, ho, hb2⟩; have hG2 := hGV.carry hb2; have f0 := hG2.c0; have f1 := hG2.c1; have f2 := hG2.c2; have f3 := hG2.c3; have z0 := hG2.thaw 0; have z1 := hG2.thaw 1; have z2 := hG2.thaw 2; have z3 := hG2.thaw 3))
    refine retGt rfl rfl rfl rfl (hG2.set xi xf xt (.slice a xd.length c)) ?_
    refine ⟨a, c, rfl, ?_, below4 (bel2 hbb hb2) (Nat.le_refl _) _ _ _ _⟩
    have hlt := lt_at hGV
    have hn0 : (Value.slice a xd.length c).ownBlock ≠ some w.heap.size := fun e => by have := own_block ho _ e; omega
    exact row_other (row_other (row_other (row_other (row_base ho hbb.size) hn0 _) hn0 _) hn0 _) hn0 _
  · rw [rfs_1no hi] at hrf
    rw [sAt_no hi]
    have f0 := hGV.c0
    have f1 := hGV.c1
    have f2 := hGV.c2
    have f3 := hGV.c3
    have z0 := hGV.thaw 0
    have z1 := hGV.thaw 1
    have z2 := hGV.thaw 2
    have z3 := hGV.thaw 3
    unfold gV g0
    clear hi
    go_enter Tryz.func11, Tryz.ntmps11
    go_wp2_with (go_at_call 80; (with_reducible refine hrf.mono ?_); rintro e u1 ⟨rfl, rfl⟩)
    refine retGt rfl rfl rfl rfl (hGV.set 0 0 0 (.slice none 0 0)) ?_
    exact ⟨none, 0, rfl, World.ownsRow_nil _ _ _ _, below4 hbb (Nat.le_refl _) _ _ _ _⟩
theorem Tn.setNew {g g' : Option Nat} {X : World} (h : Tn p g g' w X) {b : Nat} (hb : w.heap.size ≤ b) (j : Nat) (v : Value) : Tn p g g' w (X.setCell ⟨b, j, none⟩ v) :=
  ⟨h.os, h.tape, h.output, by simpa using h.size, fun k hk h1 h2 => (Below.heap_setCell X ⟨b, j, none⟩ v k (by show k ≠ b; omega)).trans (h.block k hk h1 h2), h.own⟩
theorem Tn.new4 {g g' : Option Nat} {X : World} (h : Tn p g g' w X) {b : Nat} (hb : w.heap.size ≤ b) (i f t : Int) (v : Value) : Tn p g g' w (W4 X b i f t v) := (((h.setNew hb _ _).setNew hb _ _).setNew hb _ _).setNew hb _ _
/-- A bag, by what lay there before. -/
theorem Bg.fin {σ : Nat → Prop} {F : World} {ad' : Option Addr} {cap' : Nat} {last' : Int} {ps' : List Nat} {l' : List Gr} (h : Bg σ w base p ad cap room last ps l) (hT : Tn p (ob ad) (ob ad') w F) (hobj : F.heap[p]? = some (.cells #[.int .i64 room, .int .i64 last', .slice ad' ps'.length cap'] 54 (0, 0))) (hrow : F.ownsRow base 104 1 (.slice ad' ps'.length cap') ps'.length (cP ps')) (hlen : ps'.length = l'.length)
    (hgr : ∀ (k q : Nat) (x : Gr), ps'[k]? = some q → l'[k]? = some x → GmAt σ w q x) (hle : (l'.length : Int) ≤ room) : Bg σ F base p ad' cap' room last' ps' l' :=
  ⟨h.pb, hobj, hrow, hlen, fun k q x h1 h2 => (hgr k q x h1 h2).tn h hT, hle, h.most, fun b q => Nat.lt_of_lt_of_le (h.sg b q) hT.size⟩
def sTk (l : List Gr) (i : Int) : Gr × Int × List Gr := if 0 ≤ i ∧ i < (l.length : Int) then ((l[i.toNat]?).getD g0, 0, l.take i.toNat ++ l.drop (i.toNat + 1)) else (g0, 91, l)
theorem sTk_ok {l : List Gr} {k : Nat} {x : Gr} (h : l[k]? = some x) : sTk l (k : Int) = (x, 0, l.take k ++ l.drop (k + 1)) := by
  have h1 := (List.getElem?_eq_some_iff.1 h).1
  rw [sTk, if_pos (by omega), Int.toNat_natCast, h]
  rfl
theorem sTk_no {l : List Gr} {i : Int} (h : ¬ (0 ≤ i ∧ i < (l.length : Int))) : sTk l i = (g0, 91, l) := if_neg h
set_option maxHeartbeats 2000000 in
set_option maxRecDepth 100000 in
theorem take_any {σ : Nat → Prop} (h : Bg σ w base p ad cap room last ps l) (i : Int) : Calls Tryz.prog 19 #[.pointer (some ⟨p, 0, none⟩), .int .i64 i] w fun e w' => ∃ a c, e = .returned (.tuple #[gV (sTk l i).1 a c, .int .i64 (sTk l i).2.1]) ∧ w'.ownsRow w.heap.size 5 1 (.slice a (sTk l i).1.2.2.2.length c) (sTk l i).1.2.2.2.length (cB (sTk l i).1.2.2.2) ∧ ∃ ad' cap' ps', Bg σ w' base p ad' cap' room last ps' (sTk l i).2.2 ∧ Tn p (ob ad) (ob ad') w w' := by
  obtain ⟨w1, hw1⟩ : ∃ w1, w.alloc (.cells #[.int .i64 0, .int .i64 0, .int .i64 0, .slice none 0 0] 62) = w1 := ⟨_, rfl⟩
  have hb1 : Below w.heap.size w w1 := by rw [← hw1]; exact al1' _ _
  have hz1 : w1.heap.size = w.heap.size + 1 := by rw [← hw1]; simp
  have hG1 : GB w1 w.heap.size 0 0 0 (.slice none 0 0) := by rw [← hw1]; exact new_at rfl
  obtain ⟨V, hV⟩ : ∃ V, w1.alloc (.cells #[.int .i64 i] 3) = V := ⟨_, rfl⟩
  have hbV : Below w1.heap.size w1 V := by rw [← hV]; exact al1' _ _
  have hrf := refuse_1 (h.carry hb1) i hV
  rw [hz1] at hrf
  have hB := (h.carry hb1).carry hbV
  have hGV := hG1.carry hbV
  have hbb : Below w.heap.size w V := bel2 hb1 hbV
  by_cases hi : 0 ≤ i ∧ i < (l.length : Int)
  · obtain ⟨k, q, g, x, rfl, hq, hx, hgm, rfl, hk, hc⟩ := hB.get hi
    rw [rfs_1ok hi] at hrf
    rw [sTk_ok hx]
    have hgr := del_get h.len (by rw [← h.len]; exact hk) h.gr
    have hto := takeOut_any hB k q hq
    obtain ⟨xi, xf, xt, xd⟩ := x
    clear hi hx hG1
    unfold gV
    dsimp only
    go_enter Tryz.func19, Tryz.ntmps19
    go_wp2_with (first | (go_at_call 80; (with_reducible refine hrf.mono ?_); rintro e u1 ⟨rfl, rfl⟩) | (go_at_call 85; (with_reducible refine hto.mono ?_); rintro e u1 ⟨rfl, ad', cap', hB1, hT1⟩; have htd := told_any (hgm.tn hB hT1); unfold gV at htd; dsimp only at htd; have hG1 := hB.stays hT1 hGV (by decide) (by decide)) | (go_at_call 81; (with_reducible refine htd.mono ?_); rintro e u2 ⟨a, c, rfl, ho, hb2⟩; have hG2 := GB.carry hG1 hb2; have f0 := hG2.c0; have f1 := hG2.c1; have f2 := hG2.c2; have f3 := hG2.c3; have z0 := hG2.thaw 0; have z1 := hG2.thaw 1; have z2 := hG2.thaw 2; have z3 := hG2.thaw 3))
    refine retGt rfl rfl rfl rfl (hG2.set xi xf xt (.slice a xd.length c)) ?_
    have hlt := lt_at hGV
    have hT : Tn p (ob (some ⟨g, 0, none⟩)) (ob ad') w (W4 u2 w.heap.size xi xf xt (.slice a xd.length c)) := (((Tn.of p _ hbb).trans hT1).trans (Tn.of p _ hb2)).new4 (Nat.le_refl _) _ _ _ _
    have hB2 := hB1.carry hb2
    obtain ⟨s1, s2⟩ := bg_sep hB2 hG2 (by decide) (by decide)
    have hs : (Value.slice ad' (ps.take k ++ ps.drop (k + 1)).length cap').ownBlock ≠ some w.heap.size := by rw [ob_eq]; exact fun e => s2 e.symm
    refine ⟨a, c, rfl, ?_, ad', cap', _, h.fin hT ((other4 (Ne.symm s1) _ _ _ _).trans hB2.obj) (row_other (row_other (row_other (row_other hB2.row hs _) hs _) hs _) hs _) hB2.len hgr hB2.le, hT⟩
    have hn0 : (Value.slice a xd.length c).ownBlock ≠ some w.heap.size := fun e => by have := own_block ho _ e; have := hT1.size; omega
    exact row_other (row_other (row_other (row_other (row_base ho (Nat.le_trans hbb.size hT1.size)) hn0 _) hn0 _) hn0 _) hn0 _
  · rw [rfs_1no hi] at hrf
    rw [sTk_no hi]
    have f0 := hGV.c0
    have f1 := hGV.c1
    have f2 := hGV.c2
    have f3 := hGV.c3
    have z0 := hGV.thaw 0
    have z1 := hGV.thaw 1
    have z2 := hGV.thaw 2
    have z3 := hGV.thaw 3
    unfold gV g0
    clear hi
    go_enter Tryz.func19, Tryz.ntmps19
    go_wp2_with (go_at_call 80; (with_reducible refine hrf.mono ?_); rintro e u1 ⟨rfl, rfl⟩)
    refine retGt rfl rfl rfl rfl (hGV.set 0 0 0 (.slice none 0 0)) ?_
    have hbl := below4 hbb (Nat.le_refl _) 0 0 0 (.slice none 0 0)
    exact ⟨none, 0, rfl, World.ownsRow_nil _ _ _ _, ad, cap, ps, h.carry hbl, Tn.of p _ hbl⟩
end
end Go.Proofs.YtjfbnikbmadgkaaGreat
