/- spread.Level: what it answers, at any books, nil ones too. -/
import Derived.Test.YtddblfffjhoiaaaGreatJnJ4
namespace Go.Proofs.YtddblfffjhoiaaaGreat
open Go.RowKit Go.Shelf Go.Lib
attribute [local go_sem] Oper.semAt_some

/-- The greatest so far. -/
def gst (s : Bool × N3) (x : N3) : Bool × N3 := if s.1 = false ∨ btx x s.2 = true then (true, x) else s
def grt (xs : List N3) : N3 := (xs.foldl gst (false, (0, 0, 0))).2
theorem gst_snoc (pre : List N3) (x : N3) : (pre ++ [x]).foldl gst (false, (0, 0, 0)) = gst (pre.foldl gst (false, (0, 0, 0))) x := by simp
/-- What holds while the greatest is looked for. -/
structure JG (w : World) (s : Bool × N3) (W : World) : Prop where
  bt : W.heap[w.heap.size]? = some (.cells #[.func (.func 85) #[] #[]] 109 (0, 0))
  rs : NB W (w.heap.size + 1) 0 0 0
  bs : NB W (w.heap.size + 2) s.2.1 s.2.2.1 s.2.2.2
  fd : W.heap[w.heap.size + 3]? = some (.cells #[.bool s.1] 4 (0, 0))
  be : Below w.heap.size w W
theorem JG.carry {w W V : World} {s : Bool × N3} (h : JG w s W) (hb : Below W.heap.size W V) : JG w s V := ⟨(hb.block _ (lt_at h.bt)).trans h.bt, h.rs.carry hb, h.bs.carry hb, (hb.block _ (lt_at h.fd)).trans h.fd, bel2 h.be hb⟩
theorem JG.own {w W0 : World} (h0 : w.heap.size ≤ W0.heap.size) : OwnFrom W0.heap.size (fun (s : Bool × N3) W => JG w s W) := fun s X Y row hs hg hr => by
  have hc : ∀ {k : Nat} {o : Obj}, X.heap[k]? = some o → o.isCells = true → Y.heap[k]? = some o := fun h1 h2 => (grownBy_keeps_cells hg (fun r q => (hr r q).2) h1 h2).trans h1
  exact ⟨hc hs.bt rfl, hc hs.rs rfl, hc hs.bs rfl, hc hs.fd rfl, hs.be.grown hg hs.be.size (fun k e => Nat.le_trans h0 (hr k e).1)⟩
theorem JG.turn {w W : World} {s : Bool × N3} (h : JG w s W) (o t k : Int) : JG w (true, (o, t, k)) ((W3 W (w.heap.size + 2) o t k).setCell ⟨w.heap.size + 3, 0, none⟩ (.bool true)) := by
  have e3 : ∀ b, b ≠ w.heap.size + 2 → b ≠ w.heap.size + 3 → ((W3 W (w.heap.size + 2) o t k).setCell ⟨w.heap.size + 3, 0, none⟩ (.bool true)).heap[b]? = W.heap[b]? := fun b h2 h3 => by
    unfold W3
    rw [Below.heap_setCell _ _ _ _ h3, Below.heap_setCell _ _ _ _ h2, Below.heap_setCell _ _ _ _ h2, Below.heap_setCell _ _ _ _ h2]
  have e4 : (W3 W (w.heap.size + 2) o t k).heap[w.heap.size + 3]? = some (.cells #[.bool s.1] 4 (0, 0)) := by
    unfold W3
    rw [Below.heap_setCell _ _ _ _ (by simp), Below.heap_setCell _ _ _ _ (by simp), Below.heap_setCell _ _ _ _ (by simp)]
    exact h.fd
  refine ⟨(e3 _ (by omega) (by omega)).trans h.bt, (e3 _ (by omega) (by omega)).trans h.rs, (Below.heap_setCell _ _ _ _ (by simp)).trans (NB.set h.bs o t k), ?_, (below3 h.be (by omega) o t k).setCell (by simp) _⟩
  have := heap_setCell_same _ _ 0 _ _ (.bool true) e4
  simpa using this
theorem JG.kept {w W : World} {bx B m : Nat} (hbx : bx < w.heap.size) (hB : w.heap.size + 4 ≤ B) (o t k : Int) : Kept bx B m W ((W3 W (w.heap.size + 2) o t k).setCell ⟨w.heap.size + 3, 0, none⟩ (.bool true)) :=
  (((Kept.setCell (by omega) (.inl (by omega))).trans (Kept.setCell (by omega) (.inl (by omega)))).trans (Kept.setCell (by omega) (.inl (by omega)))).trans (Kept.setCell (by omega) (.inl (by omega)))
end Go.Proofs.YtddblfffjhoiaaaGreat
namespace Go.Proofs.YtddblfffjhoiaaaGreat
open Go.RowKit Go.Shelf Go.Lib
attribute [local go_sem] Oper.semAt_some

/-- The greatest of a node. -/
def lvA (ls : List (List N3)) (i : Nat) : N3 := grt (ls.map fun l => atN l (i : Int))
def lvs (ls : List (List N3)) (n : Nat) : List N3 := (List.range n).map (lvA ls)
/-- What Level tells. -/
def lvl (ls : List (List N3)) : List N3 := if ls ≠ [] ∧ ones ls = true then lvs ls (ls.headD []).length else []
def lvE (ls : List (List N3)) : Int := if ls ≠ [] ∧ ones ls = true then 0 else 1
theorem lvs_len (ls : List (List N3)) (n : Nat) : (lvs ls n).length = n := by simp [lvs]
theorem lvs_succ (ls : List (List N3)) (n : Nat) : lvs ls (n + 1) = lvs ls n ++ [lvA ls n] := by simp [lvs, List.range_succ]
end Go.Proofs.YtddblfffjhoiaaaGreat
namespace Go.Proofs.YtddblfffjhoiaaaGreat
open Go.RowKit Go.Shelf Go.Lib
attribute [local go_sem] Oper.semAt_some

set_option maxHeartbeats 1000000 in
theorem ride_any {w : World} {p g : Nat} {l : List N3} (h : Bk w p g l) (h0 : 0 < l.length) (h1 : l.length ≤ 100) : Calls Tryz.prog 10 #[.pointer (some ⟨p, 0, none⟩)] w fun e w' => ∃ v, e = .returned v ∧ Made w w' v (l.filter pNew) ∧ Below w.heap.size w w' := by
  have hn := bnews_any h h0 h1
  go_enter Tryz.func10, Tryz.ntmps10
  go_wp2_with (go_at_call 30; (with_reducible refine hn.mono ?_); rintro e u1 ⟨v, rfl, hm, hb1⟩)
  go_ret
  exact ⟨v, rfl, hm, hb1⟩
theorem grown_new {w W V : World} {g : Nat} (hb : Below w.heap.size w W) (hg : W.grownBy V (some g)) (h : w.heap.size ≤ g) : Below w.heap.size w V :=
  hb.trans ⟨hg.os, hg.tape, hg.output, hg.size, fun k hk => hg.block k (Nat.lt_of_lt_of_le hk hb.size) (by simp; omega)⟩
set_option maxHeartbeats 4000000 in
set_option maxRecDepth 100000 in
theorem alive_any (w : World) : Calls Tryz.prog 5 #[] w fun e w' => e = .returned (.bool true) ∧ Below w.heap.size w w' := by
  have hn := new_any 3 0 0 w
  have e4 : sv 4 = .agg #[.int .u32 4, .int .u32 0, .int .u32 0, .int .u32 0] := by kernel_rfl
  have hq := eqn4 4 4 (by decide) (by decide)
  rw [e4] at hq
  have HA : Hid (∀ (W : World) (p g B : Nat), Bk W p g (bk0 3 0 0) → NB W B 2 1 1 → Calls Tryz.prog 8 #[.pointer (some ⟨p, 0, none⟩), .int .i64 0, .slice (some ⟨B, 0, none⟩) 1 1] W fun e w' => e = .returned (.tuple #[.agg #[.int .u32 4, .int .u32 0, .int .u32 0, .int .u32 0], .int .i64 0]) ∧ Bk w' p g [(0, 0, 1), (1, 0, 1), (2, 1, 1)] ∧ W.grownBy w' (some g)) := fun W p g B h hB => by
    have hr : RdN W (some ⟨B, 0, none⟩) [((2 : Int), (1 : Int), (1 : Int))] := fun _ => ⟨B, 0, rfl, lt_at hB, fun k x hk => by
      match k, hk with
      | 0, hk => cases hk; exact ⟨hB.c0, hB.c1, hB.c2⟩
      | k + 1, hk => simp at hk⟩
    have := absorb_any h 0 (some ⟨B, 0, none⟩) 1 _ hr (by simp)
    have e1 : abs (bk0 3 0 0) 0 [(2, 1, 1)] = [(0, 0, 1), (1, 0, 1), (2, 1, 1)] := by decide
    have e2 : abr (bk0 3 0 0) 0 [(2, 1, 1)] = 4 := by decide
    have e3 : (if ([((2 : Int), (1 : Int), (1 : Int))]).all (vlx (bk0 3 0 0).length) = true then (0 : Int) else 50) = 0 := by decide
    rw [e1, e2, e3, e4] at this
    exact this
  have HR : Hid (∀ (W : World) (p g : Nat), Bk W p g [(0, 0, 1), (1, 0, 1), (2, 1, 1)] → Calls Tryz.prog 10 #[.pointer (some ⟨p, 0, none⟩)] W fun e w' => ∃ B cap, e = .returned (.slice (some ⟨B, 0, none⟩) 1 cap) ∧ w'.cell? ⟨B, 0, none⟩ = some (.int .i64 2) ∧ Below W.heap.size W w') := fun W p g h => (ride_any h (by decide) (by decide)).mono (by
    rintro e w' ⟨v, rfl, hm, hb⟩
    have e1 : ([((0 : Int), (0 : Int), (1 : Int)), (1, 0, 1), (2, 1, 1)]).filter pNew = [(2, 1, 1)] := by decide
    rw [e1] at hm
    obtain ⟨B, cap, rfl⟩ := ownsRow_succ hm
    exact ⟨B, cap, rfl, by have := (nts_own hm rfl 0 _ rfl).1; simpa using this, hb⟩)
  go_enter Tryz.func5, Tryz.ntmps5
  go_wp2_with (first | (go_at_call 19; (with_reducible refine hn.mono ?_); rintro e u1 hV; obtain ⟨p, g, rfl, hp, hg, hk⟩ := hV.ok (by decide) (by decide) (by decide); have hb1 := hV.1; clear hV; obtain ⟨u2, hu2⟩ : ∃ u2, u1.alloc (.cells #[.int .i64 2, .int .i64 1, .int .i64 1] 66) = u2 := ⟨_, rfl⟩; have hb2 : Below u1.heap.size u1 u2 := (by rw [← hu2]; exact al1 _ _); have hB : NB u2 u1.heap.size 2 1 1 := (by rw [← hu2]; exact NB.new _ _ _ _); have k1 := HA.out u2 p g u1.heap.size (hk.carry hb2) hB) | (go_at_call 8; (with_reducible refine k1.mono ?_); rintro e u3 ⟨rfl, hk3, hg3⟩; have hb3 : Below w.heap.size w u3 := grown_new (bel2 hb1 hb2) hg3 hg; have k2 := HR.out _ p g (hk3.alloc (.cells #[.int .u32 4, .int .u32 0, .int .u32 0, .int .u32 0] 47)); have hs4 : Holds4 (u3.alloc (.cells #[.int .u32 4, .int .u32 0, .int .u32 0, .int .u32 0] 47)) u3.heap.size (wd 4) := new_at rfl) | (go_at_call 10; (with_reducible refine k2.mono ?_); rintro e u4 ⟨B, cap, rfl, hc, hb4⟩; obtain ⟨x0, x1, x2, x3, _, _, _, _⟩ := (hs4.carry hb4).facts; rw [show wd 4 0 = 4 by kernel_rfl] at x0; rw [show wd 4 1 = 0 by kernel_rfl] at x1; rw [show wd 4 2 = 0 by kernel_rfl] at x2; rw [show wd 4 3 = 0 by kernel_rfl] at x3))
  go_ret
  exact ⟨rfl, bel2 (hb3.alloc hb3.size _) hb4⟩
end Go.Proofs.YtddblfffjhoiaaaGreat
namespace Go.Proofs.YtddblfffjhoiaaaGreat
open Go.RowKit Go.Shelf Go.Lib

theorem all_filter {m : List N3} {n : Nat} (p : N3 → Bool) (h : m.all (vlx n) = true) : (m.filter p).all (vlx n) = true := by
  rw [List.all_eq_true] at h ⊢
  intro x hx
  exact h x (List.mem_filter.1 hx).1
theorem mrg_tke {l m : List N3} (h : m.all (vlx l.length) = true) : mrg l m = m.foldl tke l := by
  unfold mrg
  rw [if_pos h, fold_rse m h]
theorem mrg_nil (l : List N3) : mrg l [] = l := by simp [mrg]
theorem abs_comm {l : List N3} (hb : Bok l) (s : Int) (a b : List N3) : abs (abs l s a) s b = abs (abs l s b) s a := by
  unfold abs
  by_cases ha : a.all (vlx l.length) = true
  · by_cases hb' : b.all (vlx l.length) = true
    · have fa := all_filter (nm s) ha
      have fb := all_filter (nm s) hb'
      rw [if_pos ha, if_pos hb', mrg_len hb, mrg_len hb, if_pos ha, if_pos hb']
      rw [mrg_tke (l := mrg l (a.filter (nm s))) (by rw [mrg_len hb]; exact fb), mrg_tke (l := mrg l (b.filter (nm s))) (by rw [mrg_len hb]; exact fa), mrg_tke fa, mrg_tke fb, ← List.foldl_append, ← List.foldl_append]
      exact fold_perm List.perm_append_comm hb
    · rw [if_pos ha, if_neg hb', mrg_len hb, if_neg hb', if_pos ha]
  · by_cases hb' : b.all (vlx l.length) = true
    · rw [if_neg ha, if_pos hb', mrg_len hb, if_neg ha]
    · rw [if_neg ha, if_neg hb', if_neg ha]
theorem abs_twice {l : List N3} (hb : Bok l) (s : Int) (a : List N3) : abs (abs l s a) s a = abs l s a := by
  unfold abs
  by_cases ha : a.all (vlx l.length) = true
  · rw [if_pos ha, mrg_len hb, if_pos ha, (twice hb _).2]
  · rw [if_neg ha, if_neg ha]
theorem abs_four {l : List N3} (hb : Bok l) (s : Int) (a b : List N3) : abs (abs (abs (abs l s a) s b) s a) s b = abs (abs l s a) s b := by
  rw [abs_comm (l := abs l s a) (abs_bok hb s a) s b a, abs_twice hb, abs_twice (abs_bok hb s a)]
theorem absorb_some {w : World} {p g : Nat} {l : List N3} (h : Bk w p g l) (self : Int) (ad : Option Addr) (cap : Nat) (m : List N3) (hm : RdN w ad m) (hl : m.length ≤ 1000000) : Calls Tryz.prog 8 #[.pointer (some ⟨p, 0, none⟩), .int .i64 self, .slice ad m.length cap] w fun e w' => (∃ (N : Nat) (E : Int), e = .returned (.tuple #[.agg #[.int .u32 (wd N 0 : Nat), .int .u32 (wd N 1 : Nat), .int .u32 (wd N 2 : Nat), .int .u32 (wd N 3 : Nat)], .int .i64 E])) ∧ Bk w' p g (abs l self m) ∧ w.grownBy w' (some g) :=
  (absorb_any h self ad cap m hm hl).mono fun _ _ hq => ⟨⟨_, _, hq.1⟩, hq.2⟩
/-- What lies in a book behind a merge is what lay there, or one of the list. -/
theorem fold_rse_mem : ∀ (m l : List N3) (i : Nat) (y : N3), (m.foldl rse l)[i]? = some y → l[i]? = some y ∨ y ∈ m
  | [], l, i, y, h => .inl h
  | x :: m, l, i, y, h => by
    rcases fold_rse_mem m (rse l x) i y h with h1 | h1
    · unfold rse at h1
      split at h1
      · rw [List.getElem?_set] at h1
        split at h1
        · split at h1
          · cases h1; exact .inr (by simp)
          · cases h1
        · exact .inl h1
      · exact .inl h1
    · exact .inr (List.mem_cons_of_mem _ h1)
end Go.Proofs.YtddblfffjhoiaaaGreat
