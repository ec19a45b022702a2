/- roster.Read: what it answers, at every text. -/
import Derived.Test.YtebpngapkkdifaaDoorRsb
import Derived.WalkSmall
namespace Go.Proofs.YtebpngapkkdifaaDoor
open Go.RowKit Go.Shelf Go.Lib

theorem infoR : (Tryd.prog.info? 21).map (fun i => (i.zero, i.size, i.bytes)) = some (some (.int .i32 0), 1, 4) := by kernel_rfl
def runesV (l : List Int) : List Value := l.map (.int .i32)
theorem grown_below {W W' : World} (hb : Below W.heap.size W W') : W.grownBy W' none := ⟨hb.os, hb.tape, hb.output, hb.size, fun i hi _ => hb.block i hi⟩
theorem row_kept {w w' : World} {base : Nat} {e : TypeId} {size : Nat} {v : Value} {n : Nat} {xs : List Value} {row : Option Nat} (h : w.ownsRow base e size v n xs) (hg : w.grownBy w' row) (hr : ∀ k, row = some k → k < base) : w'.ownsRow base e size v n xs := by
  obtain ⟨h1, h2⟩ := h
  refine ⟨h1, ?_⟩
  rcases h2 with h2 | ⟨g, cap, cur, h3, h4, h5, h6⟩
  · exact .inl h2
  · exact .inr ⟨g, cap, cur, h3, h4, (hg.block g (lt_at h5) (fun e => by have := hr g e.symm; omega)).trans h5, h6⟩
theorem row_form {w : World} {base : Nat} {e : TypeId} {size : Nat} {v : Value} {n : Nat} {xs : List Value} (h : w.ownsRow base e size v n xs) : ∃ ad cap, v = .slice ad n cap ∧ (0 < n → ∃ g, ad = some ⟨g, 0, none⟩ ∧ base ≤ g ∧ g < w.heap.size ∧ n ≤ cap ∧ ∀ j u, xs[j]? = some u → w.cell? ⟨g, j, none⟩ = some u) := by
  obtain ⟨h1, h2⟩ := h
  rcases h2 with ⟨rfl, rfl⟩ | ⟨g, cap, cur, rfl, h4, h5, h6, h7, h8, h9⟩
  · exact ⟨none, 0, rfl, fun h => absurd h (by omega)⟩
  · refine ⟨some ⟨g, 0, none⟩, cap, rfl, fun _ => ⟨g, rfl, h4, lt_at h5, h6, fun j u hj => ?_⟩⟩
    rw [cell_at h5 j, ← hj, ← h9, List.getElem?_take]
    have hjl : j < n * size := by have := (List.getElem?_eq_some_iff.1 hj).1; omega
    rw [if_pos hjl, Array.getElem?_toList]
theorem row_block {w : World} {base : Nat} {e : TypeId} {size : Nat} {v : Value} {n : Nat} {xs : List Value} (h : w.ownsRow base e size v n xs) : ∀ g, v.ownBlock = some g → base ≤ g := by
  intro g hg
  rcases h.2 with ⟨rfl, _⟩ | ⟨g', cap, cur, rfl, h4, h5, _⟩
  · cases hg
  · cases hg
    exact h4
theorem one_at (W : World) (a : Value) (t : TypeId) : ∀ j u, [a][j]? = some u → (W.alloc (.cells #[a] t)).cell? ((⟨W.heap.size, 0, none⟩ : Addr).add j) = some u := by
  intro j u h
  have hg : (W.alloc (.cells #[a] t)).heap[W.heap.size]? = some (.cells #[a] t) := new_at rfl
  have ha : (⟨W.heap.size, 0, none⟩ : Addr).add j = ⟨W.heap.size, j, none⟩ := by unfold Addr.add; split <;> simp_all
  rw [ha, cell_at hg j, ← h]
  simp
theorem put_at {W : World} {B : Nat} {cs : Array Value} {t : TypeId} {z : Nat × Nat} (j : Nat) (v : Value) (h : W.heap[B]? = some (.cells cs t z)) : (W.setCell ⟨B, j, none⟩ v).heap[B]? = some (.cells (cs.setIfInBounds j v) t z) := by
  simp [World.setCell, Array.getElem?_modify, h]

/-- What Read has laid, as it goes: blocks B to B + 3, and the signs behind them. -/
structure RdH (B : Nat) (s : ByteArray) (pos : Nat) (l : List Int) (v : Value) (D : DataW Unit) (W : World) : Prop where
  res : W.heap[B]? = some (.cells #[.slice none 0 0, .map none] 27 (0, 0))
  mp : W.ownsMap Tryd.prog 21 (plainElem Tryd.prog 3) (B + 1) l.length D
  mo : MapOf D l
  var : W.heap[B + 2]? = some (.cells #[v, .map (some (B + 1))] 27 (0, 0))
  it : W.heap[B + 3]? = some (.stringIter s pos)
  row : W.ownsRow (B + 4) 21 1 v l.length (runesV l)
theorem RdH.lt {B : Nat} {s : ByteArray} {pos : Nat} {l : List Int} {v : Value} {D : DataW Unit} {W : World} (h : RdH B s pos l v D W) : B + 4 ≤ W.heap.size := lt_at h.it
theorem RdH.below {B : Nat} {s : ByteArray} {pos : Nat} {l : List Int} {v : Value} {D : DataW Unit} {W W' : World} (h : RdH B s pos l v D W) (hb : Below W.heap.size W W') : RdH B s pos l v D W' := by
  have hl := h.lt
  exact ⟨(hb.block _ (by omega)).trans h.res, h.mp.kept (grown_below hb) (by simp), h.mo, (hb.block _ (by omega)).trans h.var, (hb.block _ (by omega)).trans h.it, row_kept h.row (grown_below hb) (fun k e => by cases e)⟩
theorem RdH.step {B : Nat} {s : ByteArray} {pos : Nat} {l : List Int} {v : Value} {D : DataW Unit} {W : World} (h : RdH B s pos l v D W) (q : Nat) : RdH B s q l v D (W.iterAt (B + 3) s q) := by
  obtain ⟨es, clock, h3, h4⟩ := h.mp
  exact ⟨(iterAt_other _ _ _ _ _ (by omega)).trans h.res, ⟨es, clock, (iterAt_other _ _ _ _ _ (by omega)).trans h3, h4⟩, h.mo, (iterAt_other _ _ _ _ _ (by omega)).trans h.var, iterAt_heap _ _ _ _ _ h.it, ownsRow_iterAt h.row (by omega) s q⟩
theorem RdH.ros {B : Nat} {s : ByteArray} {pos : Nat} {l : List Int} {v : Value} {D : DataW Unit} {W : World} (h : RdH B s pos l v D W) : RosP W.heap.size W (.agg #[v, .map (some (B + 1))]) l := by
  have hl := h.lt
  obtain ⟨ad, cap, rfl, _⟩ := row_form h.row
  exact ⟨ad, cap, _, rfl, .inr ⟨B + 1, l.length, D, rfl, by omega, h.mp, h.mo⟩⟩
theorem RdH.push {B : Nat} {s : ByteArray} {pos : Nat} {l : List Int} {v v' : Value} {D : DataW Unit} {W W4 W5 : World} {c : Int} {o : Obj} (h : RdH B s pos l v D W) (hc : ¬ c ∈ l) (hg4 : W.grownBy W4 (some (B + 1)))
    (hmp4 : W4.ownsMap Tryd.prog 21 (plainElem Tryd.prog 3) (B + 1) (l.length + 1) (D.put (.int .i32 c) (.lit (.int .i64 l.length))))
    (hown : W5.ownsRow (B + 4) 21 1 v' (l.length + 1) (runesV l ++ [.int .i32 c])) (hg5 : (W4.alloc o).grownBy W5 v.ownBlock) :
    RdH B s pos (l ++ [c]) v' (D.put (.int .i32 c) (.lit (.int .i64 l.length))) (W5.setCell ⟨B + 2, 0, none⟩ v') := by
  have hl := h.lt
  have hl4 : B + 4 ≤ W4.heap.size := Nat.le_trans hl hg4.size
  have hne : ∀ k, k < B + 4 → some k ≠ v.ownBlock := fun k hk e => by have := row_block h.row k e.symm; omega
  have k5 : ∀ k, k < B + 4 → k ≠ B + 1 → W5.heap[k]? = W.heap[k]? := fun k hk hk1 => (hg5.block k (by simp; omega) (hne k hk)).trans ((Below.heap_alloc W4 o k (by omega)).trans (hg4.block k (by omega) (by simpa using hk1)))
  refine ⟨(Below.heap_setCell _ _ _ _ (by simp)).trans ((k5 B (by omega) (by omega)).trans h.res), ?_, mapOf_snoc h.mo hc, ?_, (Below.heap_setCell _ _ _ _ (by simp)).trans ((k5 _ (by omega) (by omega)).trans h.it), ?_⟩
  · have h1 := (hmp4.alloc o).kept hg5 (hne _ (by omega))
    have h2 := h1.setCell (a := ⟨B + 2, 0, none⟩) (by simp) v'
    simpa using h2
  · have h1 := put_at 0 v' ((k5 (B + 2) (by omega) (by omega)).trans h.var)
    simpa using h1
  · have h1 := ownsRow_setCell_below hown (a := ⟨B + 2, 0, none⟩) (by simp) v'
    simpa [runesV] using h1
theorem ret_ros {f : Func} {p q r : Tmp} {R : Ending → World → Prop} {a : Act} {w : World} {b : Nat} {u v x y : Value} (hres : f.results = #[.cell p 27, .tmp q, .tmp r]) (hp : a.tmps.getD p undef = .pointer (some ⟨b, 0, none⟩)) (hq : a.tmps.getD q undef = x) (hr : a.tmps.getD r undef = y) (hd : a.defers = [])
    (h : w.heap[b]? = some (.cells #[u, v] 27 (0, 0))) (hR : R (.returned (.tuple #[.agg #[u, v], x, y])) w) : bodyPost Tryd.prog f R .ret a w := by
  refine bodyPost_ret (v := .tuple #[.agg #[u, v], x, y]) ?_ hd hR
  have h1 := run_loadVar_row (P := Tryd.prog) w b 27 27 #[u, v] (0, 0) _ h Tryd.underlying27 rfl (by kernel_rfl)
  have hp' : a.tmps[p]?.getD undef = .pointer (some ⟨b, 0, none⟩) := by simpa using hp
  have hq' : a.tmps[q]?.getD undef = x := by simpa using hq
  have hr' : a.tmps[r]?.getD undef = y := by simpa using hr
  simp [results, hres, hp', hq', hr', asAddr, h1]
/-- What Read answers, and where it lies. -/
def RdV (s : ByteArray) (e : Ending) (W : World) : Prop := ∃ v, e = .returned (.tuple #[v, .int .i64 (readR s).2.1, .int .i64 (readR s).2.2]) ∧ Ros W.heap.size W v (readR s).1
theorem rdV_nil {s : ByteArray} {x y : Int} (h : readR s = ([], x, y)) (W : World) : RdV s (.returned (.tuple #[.agg #[.slice none 0 0, .map none], .int .i64 x, .int .i64 y])) W := ⟨_, by rw [h], by rw [h]; exact ros_nil _ _⟩
theorem below_set2 {w W : World} {n B : Nat} (h : Below n w W) (hB : n ≤ B) (a b : Value) : Below n w ((W.setCell ⟨B, 0, none⟩ a).setCell ⟨B, 1, none⟩ b) := (h.setCell (p := ⟨B, 0, none⟩) hB a).setCell (p := ⟨B, 1, none⟩) hB b

set_option maxHeartbeats 4000000 in
set_option maxRecDepth 100000 in
theorem read_any (s : ByteArray) (hs : s.size ≤ maxLen) (w : World) : Calls Tryd.prog 4 #[.string s] w fun e w' => RdV s e w' ∧ Below w.heap.size w w' := by
  have hsz := sizeError_any s hs
  have hmm := @run_makeMap Tryd.prog
  by_cases h1 : 65536 < s.size
  · have hR : readR s = ([], 0, 2) := by rw [readR, if_pos h1]
    rw [show szE s = 2 by rw [szE, if_pos h1]] at hsz
    have HR : Hid (readR s = ([], 0, 2)) := hR
    clear hR
    go_enter Tryd.func4, Tryd.ntmps4
    go_wp2_with (go_at_call 8; refine (hsz _).mono ?_; rintro e w1 ⟨rfl, rfl⟩)
    exact ret_ros rfl rfl rfl rfl rfl (new_at rfl) ⟨rdV_nil HR.out _, (Below.refl _ w).alloc (Nat.le_refl _) _⟩
  by_cases h2 : s.size = 0
  · have hR : readR s = ([], 0, 40) := by rw [readR, if_neg h1, if_pos h2]
    rw [show szE s = 40 by rw [szE, if_neg h1, if_pos h2]] at hsz
    have HR : Hid (readR s = ([], 0, 40)) := hR
    clear hR
    go_enter Tryd.func4, Tryd.ntmps4
    go_wp2_with (go_at_call 8; refine (hsz _).mono ?_; rintro e w1 ⟨rfl, rfl⟩)
    exact ret_ros rfl rfl rfl rfl rfl (new_at rfl) ⟨rdV_nil HR.out _, (Below.refl _ w).alloc (Nat.le_refl _) _⟩
  have hR : readR s = rdGo [] (charsOf s) := by rw [readR, if_neg h1, if_neg h2]
  rw [show szE s = 0 by rw [szE, if_neg h1, if_neg h2]] at hsz
  have HR : Hid (readR s = rdGo [] (charsOf s)) := hR
  clear hR
  obtain ⟨ic, hic, hz0, hz1, hz2⟩ := info_parts infoR
  go_enter Tryd.func4, Tryd.ntmps4
  go_wp2_with (go_at_call 8; refine (hsz _).mono ?_; rintro e w1 ⟨rfl, rfl⟩)
  clear hsz
  go_loopw [] (fun wr => ∃ (pos fuel : Nat) (l : List Int) (v : Value) (D : DataW Unit), Hid (rdGo l (charsFrom s fuel pos) = rdGo [] (charsOf s)) ∧ s.size ≤ pos + fuel ∧ Signs l ∧ RdH w.heap.size s pos l v D wr ∧ Below w.heap.size w wr) (fun wr => s.size - wr.iterPos (w.heap.size + 3))
  case atStart =>
    have hr : Hid (rdGo [] (charsFrom s s.size 0) = rdGo [] (charsOf s)) := rfl
    refine ⟨0, s.size, [], .slice none 0 0, .map [], hr, by omega, signs_nil, ⟨old_at (old_at (old_at (new_at rfl))), ?_, mapOf_nil, old_at (new_at (by simp)), new_at (by simp), ⟨rfl, .inl ⟨rfl, rfl⟩⟩⟩, ?_⟩
    · have h := ((World.ownsMap_made (w.alloc (.cells #[.slice none 0 0, .map none] 27)) Tryd.prog 21 (plainElem (H := Unit) Tryd.prog 3)).alloc (.cells #[.slice none 0 0, .map (some (w.heap.size + 1))] 27)).alloc (.stringIter s 0)
      have e1 : (w.alloc (.cells #[.slice none 0 0, .map none] 27)).heap.size = w.heap.size + 1 := by simp
      rw [e1] at h
      exact h
    · exact ((((Below.refl _ w).alloc (Nat.le_refl _) _).alloc (by simp) _).alloc (by simp; omega) _).alloc (by simp; omega) _
  case round =>
    obtain ⟨pos, fuel, l, v, D, hgo, hfu, hsg, hH, hbw⟩ := hrel
    have hlt := hH.lt
    have hls := hsg.short
    have hit := hH.it
    by_cases hp : pos < s.size
    · have hnx : ∀ ty, (Instr.next (.pointer (some ⟨w.heap.size + 3, 0, none⟩)) true ty).run Tryd.prog wr = .ok (.tuple #[.bool true, .int .i64 pos, .int .i32 (rn s pos)]) (wr.iterAt (w.heap.size + 3) s (pos + wdt s pos)) := fun ty => Lib.run_next_any_at wr (w.heap.size + 3) s pos ty hit hp
      have hwd := wdt_pos s pos
      have hrn := rn_le s pos
      have hb2 := Lib.below_iterAt hbw (k := w.heap.size + 3) (by omega) s (pos + wdt s pos)
      have hH2 := hH.step (pos + wdt s pos)
      obtain ⟨f, rfl⟩ : ∃ f, fuel = f + 1 := ⟨fuel - 1, by omega⟩
      rw [charsFrom_step s f pos hp] at hgo
      have hmeas : wr.iterPos (w.heap.size + 3) = pos := by simp only [World.iterPos, hit]
      generalize hW1 : wr.iterAt (w.heap.size + 3) s (pos + wdt s pos) = W1 at *
      clear hW1
      obtain ⟨ad, cap, rfl, _⟩ := row_form hH2.row
      have c0 := cell_at hH2.var 0
      have c1 := cell_at hH2.var 1
      have f0 := thaw_at hH2.var 0
      have hlt2 := hH2.lt
      have hcall := newSign_any W1 hls hH2.ros (Nat.le_refl _) (c := (rn s pos : Int)) (by omega) (by omega)
      have HR0 := HR
      have HR2 : Hid (readR s = rdGo l ((rn s pos : Int) :: charsFrom s f (pos + wdt s pos))) := HR.out.trans hgo.out.symm
      clear hgo HR
      by_cases hC : cls (rn s pos : Int) = 4 ∧ ¬ (rn s pos : Int) ∈ l ∧ l.length < 100
      · have e0 : nwE l (rn s pos : Int) = 0 := by rw [nwE, if_pos hC.1, if_neg hC.2.1, if_pos hC.2.2]
        have HR3 : Hid (readR s = rdGo (l ++ [(rn s pos : Int)]) (charsFrom s f (pos + wdt s pos))) := by
          have := HR2.out
          rw [rdGo, if_pos hC.1, if_neg hC.2.1, if_pos hC.2.2] at this
          exact this
        have hC2 : Hid (cls (rn s pos : Int) = 4 ∧ ¬ (rn s pos : Int) ∈ l ∧ l.length < 100) := hC
        rw [e0] at hcall
        clear e0 HR2 hC
        have hkey := Maps.keyOf_int_mk (P := Tryd.prog) Tryd.underlying21 (wf_i32 (c := (rn s pos : Int)) (by omega) (by omega))
        generalize (rn s pos : Int) = c at *
        have hwr : w.heap.size ≤ W1.heap.size := by omega
        go_wp2_with (first | (go_at_call 9; refine hcall.mono ?_; rintro e W2 ⟨rfl, hb3⟩; have hH3 := hH2.below hb3; have d0 := cell_at hH3.var 0; have d1 := cell_at hH3.var 1; have hlt3 := hH3.lt) | (at_mapUpdate; refine wpList_mapUpdate_own _ rfl _ _ _ 25 rfl 21 3 keyR Tryd.underlying25 _ (w.heap.size + 1) l.length _ rfl hH3.mp (by unfold maxLen; omega) _ _ _ rfl rfl hkey _ [] (plainElem_int Tryd.underlying3 (WalkArith.wf_i64 (by omega))) ?_; intro W4 hmp4 hg4; have hv4 := (hg4.block (w.heap.size + 2) (by omega) (by simp)).trans hH3.var; have e0 := cell_at hv4 0; have hr4 := row_kept hH3.row hg4 (fun k e => by cases e; omega); have hl4 := Nat.le_trans hlt3 hg4.size) | (at_builtin; refine wpList_append_own _ rfl _ _ 24 rfl (w.heap.size + 4) 21 ic _ 1 4 Tryd.underlying24 hic hz0 hz1 hz2 rfl (by decide) _ _ _ rfl (hr4.alloc _) ⟨W4.heap.size, 0, none⟩ 1 1 [.int .i32 c] rfl rfl (one_at _ _ _) (by simp [Value.oneCell']) (by unfold maxLen; omega) (by omega) (by simp; omega) ?_; intro v' W5 hown' hgrow _; obtain ⟨ad', cap', rfl, _⟩ := row_form hown'; have hH5 := hH3.push hC2.out.2.1 hg4 hmp4 hown' hgrow; have hv5 := (hgrow.block (w.heap.size + 2) (by simp; omega) (fun e => absurd (row_block hH3.row _ e.symm) (by omega))).trans (old_at hv4); have i0 := cell_at hv5 0; have j0 := thaw_at hv5 0; have hb5 : Below w.heap.size w W5 := (((hb2.trans (hb3.mono (by omega))).grown hg4 (by omega) (fun k e => by cases e; omega)).alloc (by omega) _).grown hgrow (by simp; omega) (fun k e => by have := row_block hH3.row k e; omega)))
        go_roundw
        case rel =>
          have hG : Hid (rdGo (l ++ [c]) (charsFrom s f (pos + wdt s pos)) = rdGo [] (charsOf s)) := HR3.out.symm.trans HR0.out
          exact ⟨pos + wdt s pos, f, l ++ [c], _, _, hG, by omega, signs_snoc hsg hC2.out.1 hC2.out.2.1 hC2.out.2.2, hH5, hb5.setCell (p := ⟨w.heap.size + 2, 0, none⟩) (by simp) _⟩
        case measure =>
          simp only [World.iterPos, hH5.it, hit]
          omega
      · have e0 : nwE l (rn s pos : Int) ≠ 0 ∧ readR s = ([], (l.length : Int), nwE l (rn s pos : Int)) := by
          have := HR2.out
          rw [rdGo] at this
          unfold nwE
          by_cases q1 : cls (rn s pos : Int) = 4
          · rw [if_pos q1] at this ⊢
            by_cases q2 : (rn s pos : Int) ∈ l
            · rw [if_pos q2] at this ⊢; exact ⟨by decide, this⟩
            · rw [if_neg q2] at this ⊢
              by_cases q3 : l.length < 100
              · exact absurd ⟨q1, q2, q3⟩ hC
              · rw [if_neg q3] at this ⊢; exact ⟨by decide, this⟩
          · rw [if_neg q1] at this ⊢; exact ⟨by decide, this⟩
        obtain ⟨e1, e2⟩ := e0
        have HE : Hid (readR s = ([], (l.length : Int), nwE l (rn s pos : Int))) := e2
        have hne : (nwE l (rn s pos : Int) == 0) = false := beq_eq_false_iff_ne.2 e1
        clear e1 e2 HR2 hC
        generalize nwE l (rn s pos : Int) = x at *
        generalize (rn s pos : Int) = c at *
        go_wp2_with (go_at_call 9; refine hcall.mono ?_; rintro e W2 ⟨rfl, hb3⟩; have hH3 := hH2.below hb3; have d0 := cell_at hH3.res 0; have d1 := cell_at hH3.res 1; have d2 := thaw_at hH3.res 0; have d3 := thaw_at hH3.res 1; have hlt3 := hH3.lt)
        exact ret_ros rfl rfl rfl rfl rfl (put_at 1 _ (put_at 0 _ hH3.res)) ⟨rdV_nil HE.out _, below_set2 (hb2.trans (hb3.mono (by omega))) (Nat.le_refl _) _ _⟩
    · have hnx : ∀ ty, (Instr.next (.pointer (some ⟨w.heap.size + 3, 0, none⟩)) true ty).run Tryd.prog wr = .ok (.tuple #[.bool false]) wr := fun ty => Lib.run_next_end_at wr (w.heap.size + 3) s pos ty hit hp
      have HE : Hid (readR s = (l, 0, 0)) := by
        have := hgo.out
        rw [charsFrom_end s fuel pos hp, rdGo] at this
        exact HR.out.trans this.symm
      obtain ⟨ad, cap, rfl, hrow⟩ := row_form hH.row
      have c0 := cell_at hH.var 0
      have c1 := cell_at hH.var 1
      have d0 := cell_at hH.res 0
      have d1 := cell_at hH.res 1
      have d2 := thaw_at hH.res 0
      have d3 := thaw_at hH.res 1
      clear hgo HR
      go_wp2
      refine ret_ros rfl rfl rfl rfl rfl (put_at 1 _ (put_at 0 _ hH.res)) ⟨⟨_, by rw [HE.out]; rfl, ?_⟩, below_set2 hbw (Nat.le_refl _) _ _⟩
      rw [HE.out]
      have hbl : Below (w.heap.size + 4) wr wr := Below.refl _ _
      refine ⟨hsg, _, _, rfl, ⟨ad, cap, rfl, fun hl => ?_⟩, .inr ⟨w.heap.size + 1, l.length, D, rfl, by simp; omega, (hH.mp.setCell (a := ⟨w.heap.size, 0, none⟩) (by simp) _).setCell (a := ⟨w.heap.size, 1, none⟩) (by simp) _, hH.mo⟩⟩
      obtain ⟨g, rfl, g1, g2, g3, g4⟩ := hrow (List.length_pos_iff.2 hl)
      refine ⟨g, rfl, by simp; exact g2, g3, fun j x hj => ?_⟩
      have e1 : ∀ (W : World) (k : Nat) (u : Value), k < g → (W.setCell ⟨k, 0, none⟩ u).cell? ⟨g, j, none⟩ = W.cell? ⟨g, j, none⟩ := fun W k u hk => World.cell?_of_block (Below.heap_setCell _ _ _ _ (by simp; omega))
      have e2 : ∀ (W : World) (k : Nat) (u : Value), k < g → (W.setCell ⟨k, 1, none⟩ u).cell? ⟨g, j, none⟩ = W.cell? ⟨g, j, none⟩ := fun W k u hk => World.cell?_of_block (Below.heap_setCell _ _ _ _ (by simp; omega))
      rw [e2 _ _ _ (by omega), e1 _ _ _ (by omega)]
      exact g4 j _ (by simp [runesV, hj])
end Go.Proofs.YtebpngapkkdifaaDoor
