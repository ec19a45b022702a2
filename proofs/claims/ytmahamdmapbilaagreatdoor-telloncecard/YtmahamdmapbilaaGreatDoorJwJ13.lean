import Derived.Test.YtmahamdmapbilaaGreatDoorJwJ11
import Derived.Test.YtmahamdmapbilaaGreatDoorJwJ12
import Derived.Test.YtmahamdmapbilaaGreatDoorJwJ3
import Derived.Laws.EntriesVeiled
import Derived.Test.YtmahamdmapbilaaGreatDoorJwJ7
import Derived.WalkSmall
import Derived.Test.YtmahamdmapbilaaGreatDoorJwJ2
import Derived.Laws.Cover4
set_option maxHeartbeats 40000000
set_option maxRecDepth 100000
set_option linter.unusedVariables false
namespace Go.Proofs.YtmahamdmapbilaaGreatDoor
open Go.RowKit Go.Shelf Go.Lib
def rdF (nb wb : Nat) : Value := .func (.func 93) #[] #[.pointer (some ⟨nb, 0, none⟩), .pointer (some ⟨wb, 0, none⟩)]
theorem bel3 {w w1 w2 : World} (h : Below w.heap.size w w1) (k : Below w1.heap.size w1 w2) : Below w.heap.size w w2 := h.trans (k.mono h.size)
theorem nth0 {t : ByteArray} (h : 0 < t.size) : nthV t 0 = .tuple #[.agg (chC t 0), .int .i64 0] := by
 have e : nthO t 0 = some 0 := by
  unfold nthO
  rw [if_neg (by decide)]
  obtain ⟨f, hf⟩ : ∃ f, t.size = f + 1 := ⟨t.size - 1, by omega⟩
  unfold starts
  rw [hf, startsFrom_step t f 0 h]
  rfl
 unfold nthV
 rw [e]
theorem tid_ok {M : Nat} {sl mp : Value} {l : List Int} {w : World} (h : Ros M w (.agg #[sl, mp]) l) (hM : M ≤ w.heap.size) (nb wb : Nat) (k ln c : Int) (t : ByteArray) (ht : t.size ≤ maxLen) (h0 : 0 < t.size) (hin : ((rn t 0 : Nat) : Int) ∈ l) : Calls Tryz.prog 178 #[.agg #[sl, mp, rdF nb wb], tkV k t ln c] w fun e w' => e = .returned (.int .i64 (l.idxOf ((rn t 0 : Nat) : Int) : Int)) ∧ Below w.heap.size w w' := by
 have hn := nth_any t ht 0
 rw [nth0 h0] at hn
 unfold chC at hn
 have hle := rn_le t 0
 have HID : Hid (∀ V, Below w.heap.size w V → Calls Tryz.prog 205 #[.agg #[sl, mp], .int .i32 ((rn t 0 : Nat) : Int)] V fun e w' => e = .returned (.tuple #[.int .i64 (l.idxOf ((rn t 0 : Nat) : Int) : Int), .int .i64 0]) ∧ Below V.heap.size V w') := fun V hV => by
  have := id_any V (h.below (hV.mono hM)) (Nat.le_trans hM hV.size) (c := ((rn t 0 : Nat) : Int)) (by omega) (by omega)
  rw [idV, if_pos hin] at this
  exact this
 clear h hin
 generalize l.idxOf ((rn t 0 : Nat) : Int) = x at *
 generalize wdt t 0 = wz at *
 generalize looseB t 0 = lz at *
 have hrf := trefuse_no 0 k ln c t
 unfold tkV at hrf ⊢
 unfold rdF
 obtain ⟨w1, hw1⟩ : ∃ w1, w.alloc (.cells #[sl, mp, .func (.func 93) #[] #[.pointer (some ⟨nb, 0, none⟩), .pointer (some ⟨wb, 0, none⟩)]] 86) = w1 := ⟨_, rfl⟩
 have hb1 : Below w.heap.size w w1 := by rw [← hw1]; exact al1t _ _
 have hr1 : w1.heap[w.heap.size]? = some (.cells #[sl, mp, .func (.func 93) #[] #[.pointer (some ⟨nb, 0, none⟩), .pointer (some ⟨wb, 0, none⟩)]] 86 (0, 0)) := by rw [← hw1]; exact zna rfl
 obtain ⟨w2, hw2⟩ : ∃ w2, w1.alloc (.cells #[.int .i64 k, .string t, .int .i64 ln, .int .i64 c] 48) = w2 := ⟨_, rfl⟩
 have hb2 : Below w1.heap.size w1 w2 := by rw [← hw2]; exact al1t _ _
 have hr2 : w2.heap[w1.heap.size]? = some (.cells #[.int .i64 k, .string t, .int .i64 ln, .int .i64 c] 48 (0, 0)) := by rw [← hw2]; exact zna rfl
 have hr1' := (hb2.block _ (zla hr1)).trans hr1
 have hb02 := bel3 hb1 hb2
 have a1 : w2.cell? ⟨w1.heap.size, 1, none⟩ = some (.string t) := (zca hr2 1).trans rfl
 obtain ⟨r0, hrr⟩ : ∃ r0 : Int, ((rn t 0 : Nat) : Int) = r0 := ⟨_, rfl⟩
 rw [hrr] at hn HID
 clear hrr hle h0
 go_enter Tryz.func178, Tryz.ntmps178
 go_wp2_with (first
  | (go_at_call 94; (with_reducible refine (hrf _).mono ?_); rintro e u4 ⟨rfl, hb4⟩)
  | (go_at_call 205; (with_reducible refine (HID.out _ hB2).mono ?_); rintro e u3 ⟨rfl, hb3⟩; have g2 := (hb3.block _ (zla f2)).trans f2; have t0 : u3.cell? ⟨w1.heap.size, 0, none⟩ = some (.int .i64 k) := (zca g2 0).trans rfl; have t1 : u3.cell? ⟨w1.heap.size, 1, none⟩ = some (.string t) := (zca g2 1).trans rfl; have t2 : u3.cell? ⟨w1.heap.size, 2, none⟩ = some (.int .i64 ln) := (zca g2 2).trans rfl; have t3 : u3.cell? ⟨w1.heap.size, 3, none⟩ = some (.int .i64 c) := (zca g2 3).trans rfl)
  | (go_at_call 204; (with_reducible refine (hn _).mono ?_); rintro e u1 ⟨rfl, hbu⟩; obtain ⟨u2, hu2⟩ : ∃ u2, u1.alloc (.cells #[.int .i32 r0, .int .i64 0, .int .i64 wz, .bool lz] 197) = u2 := ⟨_, rfl⟩; have hbv : Below u1.heap.size u1 u2 := (by rw [← hu2]; exact al1t _ _); have hB2 := bel3 (bel3 hb02 hbu) hbv; have f1 := (hbv.block _ (Nat.lt_of_lt_of_le (zla hr1') hbu.size)).trans ((hbu.block _ (zla hr1')).trans hr1'); have f2 := (hbv.block _ (Nat.lt_of_lt_of_le (zla hr2) hbu.size)).trans ((hbu.block _ (zla hr2)).trans hr2); have p0 : u2.cell? ⟨w.heap.size, 0, none⟩ = some sl := (zca f1 0).trans rfl; have p1 : u2.cell? ⟨w.heap.size, 1, none⟩ = some mp := (zca f1 1).trans rfl; have f3 : u2.heap[u1.heap.size]? = some (.cells #[.int .i32 r0, .int .i64 0, .int .i64 wz, .bool lz] 197 (0, 0)) := (by rw [← hu2]; exact zna rfl); have p2 : u2.cell? ⟨u1.heap.size, 0, none⟩ = some (.int .i32 r0) := (zca f3 0).trans rfl))
 go_ret
 exact ⟨rfl, bel3 (bel3 hB2 hb3) hb4⟩
theorem pos_of_one {t : ByteArray} (h : ((starts t).length : Int) = 1) : 0 < t.size := by
 rcases Nat.eq_zero_or_pos t.size with e | e
 · unfold starts at h
   rw [startsFrom_end t _ 0 (by omega)] at h
   simp at h
 · exact e
theorem Ros.ob {M nb : Nat} {v : Value} {l : List Int} {W V : World} (h : Ros M W v l) (hb : Ob nb W V) (h1 : M ≤ nb) (h2 : M ≤ W.heap.size) : Ros M V v l := h.below (hb.below (Below.refl _ _) h1 h2)
def RdBx (W : World) (b : Nat) (sl mp : Value) (nb wb : Nat) : Prop := W.heap[b]? = some (.cells #[sl, mp, rdF nb wb] 86 (0, 0))
theorem RdBx.ob {W V : World} {b : Nat} {sl mp : Value} {nb wb : Nat} (h : RdBx W b sl mp nb wb) (hb : Ob nb W V) (hn : b ≠ nb) : RdBx V b sl mp nb wb := (hb.block b (zla h) hn).trans h
theorem load_rd {W : World} {b : Nat} {sl mp : Value} {nb wb : Nat} (h : RdBx W b sl mp nb wb) : (Instr.loadAt 86 (.pointer (some ⟨b, 0, none⟩))).run Tryz.prog W = .ok (.agg #[sl, mp, rdF nb wb]) W := by
 have c0 : W.cell? ⟨b, 0, none⟩ = some sl := (zca h 0).trans rfl
 have c1 : W.cell? ⟨b, 1, none⟩ = some mp := (zca h 1).trans rfl
 have c2 : W.cell? ⟨b, 2, none⟩ = some (rdF nb wb) := (zca h 2).trans rfl
 unfold rdF at c2 ⊢
 go_simp
theorem field_rd (W : World) (b : Nat) : (Instr.fieldAt 86 (.pointer (some ⟨b, 0, none⟩)) 1).run Tryz.prog W = .ok (.pointer (some ⟨b, 2, none⟩)) W := by go_simp
end Go.Proofs.YtmahamdmapbilaaGreatDoor
namespace Go.Proofs.YtmahamdmapbilaaGreatDoor
def psGo (l : List Int) : Nat → Nat → List Int → Nat × Int × Int
 | N, _, [] => (N, 0, 0)
 | N, k, c :: t => if c ∈ l then (if N.testBit (l.idxOf c) then (0, (k : Int), 42) else psGo l (N ||| 2 ^ l.idxOf c) (k + 1) t) else (0, (k : Int), 41)
def dash : ByteArray := ⟨#[45]⟩
def parseR (l : List Int) (s : ByteArray) : Nat × Int × Int := if 65536 < s.size then (0, 0, 2) else if s.size = 0 then (0, 0, 40) else if s = dash then (0, 0, 0) else psGo l 0 0 (charsOf s)
theorem idx_lt {l : List Int} (h : Signs l) {c : Int} (hc : c ∈ l) : l.idxOf c < 100 := by
 have := List.idxOf_lt_length_iff.2 hc
 have := h.short
 omega
theorem or_lt100 {N i : Nat} (hN : N < S100) (hi : i < 100) : N ||| 2 ^ i < S100 := by
 have e : S100 = 2 ^ 100 := by decide
 rw [e] at hN ⊢
 exact Nat.or_lt_two_pow hN (Nat.pow_lt_pow_right (by decide) hi)
theorem psGo_lt {l : List Int} (h : Signs l) : ∀ (t : List Int) (N k : Nat), N < S100 → (psGo l N k t).1 < S100
 | [], N, k, hN => hN
 | c :: t, N, k, hN => by
  unfold psGo
  by_cases h1 : c ∈ l
  · rw [if_pos h1]
    by_cases h2 : N.testBit (l.idxOf c)
    · rw [if_pos h2]; exact (by decide : 0 < S100)
    · rw [if_neg h2]; exact psGo_lt h t _ _ (or_lt100 hN (idx_lt h h1))
  · rw [if_neg h1]; exact (by decide : 0 < S100)
theorem parseR_lt {l : List Int} (h : Signs l) (s : ByteArray) : (parseR l s).1 < S100 := by
 unfold parseR
 split
 · decide
 · split
   · decide
   · split
     · decide
     · exact psGo_lt h _ _ _ (by decide)
theorem cln_self {N : Nat} (h : N < S100) : cln N = N := Nat.mod_eq_of_lt h
end Go.Proofs.YtmahamdmapbilaaGreatDoor
namespace Go.Proofs.YtmahamdmapbilaaGreatDoor
open Go.RowKit Go.Shelf Go.Lib
theorem infoR : (Tryz.prog.info? 21).map (fun i => (i.zero, i.size, i.bytes)) = some (some (.int .i32 0), 1, 4) := by kernel_rfl
def runesV (l : List Int) : List Value := l.map (.int .i32)
theorem grown_below {W W' : World} (hb : Below W.heap.size W W') : W.grownBy W' none := ⟨hb.os, hb.tape, hb.output, hb.size, fun i hi _ => hb.block i hi⟩
theorem row_kept {w w' : World} {base : Nat} {e : TypeId} {size : Nat} {v : Value} {n : Nat} {xs : List Value} {row : Option Nat} (h : w.ownsRow base e size v n xs) (hg : w.grownBy w' row) (hr : ∀ k, row = some k → k < base) : w'.ownsRow base e size v n xs := by
 obtain ⟨h1, h2⟩ := h
 refine ⟨h1, ?_⟩
 rcases h2 with h2 | ⟨g, cap, cur, h3, h4, h5, h6⟩
 · exact .inl h2
 · exact .inr ⟨g, cap, cur, h3, h4, (hg.block g (zla h5) (fun e => by have := hr g e.symm; omega)).trans h5, h6⟩
theorem row_form {w : World} {base : Nat} {e : TypeId} {size : Nat} {v : Value} {n : Nat} {xs : List Value} (h : w.ownsRow base e size v n xs) : ∃ ad cap, v = .slice ad n cap ∧ (0 < n → ∃ g, ad = some ⟨g, 0, none⟩ ∧ base ≤ g ∧ g < w.heap.size ∧ n ≤ cap ∧ ∀ j u, xs[j]? = some u → w.cell? ⟨g, j, none⟩ = some u) := by
 obtain ⟨h1, h2⟩ := h
 rcases h2 with ⟨rfl, rfl⟩ | ⟨g, cap, cur, rfl, h4, h5, h6, h7, h8, h9⟩
 · exact ⟨none, 0, rfl, fun h => absurd h (by omega)⟩
 · refine ⟨some ⟨g, 0, none⟩, cap, rfl, fun _ => ⟨g, rfl, h4, zla h5, h6, fun j u hj => ?_⟩⟩
   rw [zca h5 j, ← hj, ← h9, List.getElem?_take]
   have hjl : j < n * size := by have := (List.getElem?_eq_some_iff.1 hj).1; omega
   rw [if_pos hjl, Array.getElem?_toList]
theorem row_block {w : World} {base : Nat} {e : TypeId} {size : Nat} {v : Value} {n : Nat} {xs : List Value} (h : w.ownsRow base e size v n xs) : ∀ g, v.ownBlock = some g → base ≤ g := by
 intro g hg
 rcases h.2 with ⟨rfl, _⟩ | ⟨g', cap, cur, rfl, h4, h5, _⟩
 · cases hg
 · cases hg
   exact h4
theorem one_at (W : World) (a : Value) (t : TypeId) : ∀ j u, [a][j]? = some u → (W.alloc (.cells #[a] t)).cell? ((⟨W.heap.size, 0, none⟩ : Addr).add j) = some u := by
 intro j u h
 have hg : (W.alloc (.cells #[a] t)).heap[W.heap.size]? = some (.cells #[a] t) := zna rfl
 have ha : (⟨W.heap.size, 0, none⟩ : Addr).add j = ⟨W.heap.size, j, none⟩ := by unfold Addr.add; split <;> simp_all
 rw [ha, zca hg j, ← h]
 simp
theorem put_at {W : World} {B : Nat} {cs : Array Value} {t : TypeId} {z : Nat × Nat} (j : Nat) (v : Value) (h : W.heap[B]? = some (.cells cs t z)) : (W.setCell ⟨B, j, none⟩ v).heap[B]? = some (.cells (cs.setIfInBounds j v) t z) := by
 simp [World.setCell, Array.getElem?_modify, h]
structure RdH (B : Nat) (s : ByteArray) (pos : Nat) (l : List Int) (v : Value) (D : DataW Unit) (W : World) : Prop where
 res : W.heap[B]? = some (.cells #[.slice none 0 0, .map none] 25 (0, 0))
 mp : W.ownsMap Tryz.prog 21 (plainElem Tryz.prog 3) (B + 1) l.length D
 mo : MapOf D l
 var : W.heap[B + 2]? = some (.cells #[v, .map (some (B + 1))] 25 (0, 0))
 it : W.heap[B + 3]? = some (.stringIter s pos)
 row : W.ownsRow (B + 4) 21 1 v l.length (runesV l)
theorem RdH.lt {B : Nat} {s : ByteArray} {pos : Nat} {l : List Int} {v : Value} {D : DataW Unit} {W : World} (h : RdH B s pos l v D W) : B + 4 ≤ W.heap.size := zla h.it
theorem RdH.below {B : Nat} {s : ByteArray} {pos : Nat} {l : List Int} {v : Value} {D : DataW Unit} {W W' : World} (h : RdH B s pos l v D W) (hb : Below W.heap.size W W') : RdH B s pos l v D W' := by
 have hl := h.lt
 exact ⟨(hb.block _ (by omega)).trans h.res, h.mp.kept (grown_below hb) (by simp), h.mo, (hb.block _ (by omega)).trans h.var, (hb.block _ (by omega)).trans h.it, row_kept h.row (grown_below hb) (fun k e => by cases e)⟩
theorem RdH.step {B : Nat} {s : ByteArray} {pos : Nat} {l : List Int} {v : Value} {D : DataW Unit} {W : World} (h : RdH B s pos l v D W) (q : Nat) : RdH B s q l v D (W.iterAt (B + 3) s q) := by
 obtain ⟨es, clock, h3, h4⟩ := h.mp
 exact ⟨(iterAt_other _ _ _ _ _ (by omega)).trans h.res, ⟨es, clock, (iterAt_other _ _ _ _ _ (by omega)).trans h3, h4⟩, h.mo, (iterAt_other _ _ _ _ _ (by omega)).trans h.var, iterAt_heap _ _ _ _ _ h.it, ownsRow_iterAt h.row (by omega) s q⟩
theorem RdH.ros {B : Nat} {s : ByteArray} {pos : Nat} {l : List Int} {v : Value} {D : DataW Unit} {W : World} (h : RdH B s pos l v D W) : RosP W.heap.size W (.agg #[v, .map (some (B + 1))]) l := by
 have hl := h.lt
 obtain ⟨ad, cap, rfl, _⟩ := row_form h.row
 exact ⟨ad, cap, _, rfl, .inr ⟨B + 1, l.length, D, rfl, by omega, h.mp, h.mo⟩⟩
theorem RdH.push {B : Nat} {s : ByteArray} {pos : Nat} {l : List Int} {v v' : Value} {D : DataW Unit} {W W4 W5 : World} {c : Int} {o : Obj} (h : RdH B s pos l v D W) (hc : ¬ c ∈ l) (hg4 : W.grownBy W4 (some (B + 1)))
   (hmp4 : W4.ownsMap Tryz.prog 21 (plainElem Tryz.prog 3) (B + 1) (l.length + 1) (D.put (.int .i32 c) (.lit (.int .i64 l.length))))
   (hown : W5.ownsRow (B + 4) 21 1 v' (l.length + 1) (runesV l ++ [.int .i32 c])) (hg5 : (W4.alloc o).grownBy W5 v.ownBlock) :
   RdH B s pos (l ++ [c]) v' (D.put (.int .i32 c) (.lit (.int .i64 l.length))) (W5.setCell ⟨B + 2, 0, none⟩ v') := by
 have hl := h.lt
 have hl4 : B + 4 ≤ W4.heap.size := Nat.le_trans hl hg4.size
 have hne : ∀ k, k < B + 4 → some k ≠ v.ownBlock := fun k hk e => by have := row_block h.row k e.symm; omega
 have k5 : ∀ k, k < B + 4 → k ≠ B + 1 → W5.heap[k]? = W.heap[k]? := fun k hk hk1 => (hg5.block k (by simp; omega) (hne k hk)).trans ((Below.heap_alloc W4 o k (by omega)).trans (hg4.block k (by omega) (by simpa using hk1)))
 refine ⟨(Below.heap_setCell _ _ _ _ (by simp)).trans ((k5 B (by omega) (by omega)).trans h.res), ?_, mapOf_snoc h.mo hc, ?_, (Below.heap_setCell _ _ _ _ (by simp)).trans ((k5 _ (by omega) (by omega)).trans h.it), ?_⟩
 · have h1 := (hmp4.alloc o).kept hg5 (hne _ (by omega))
   have h2 := h1.setCell (a := ⟨B + 2, 0, none⟩) (by simp) v'
   simpa using h2
 · have h1 := put_at 0 v' ((k5 (B + 2) (by omega) (by omega)).trans h.var)
   simpa using h1
 · have h1 := ownsRow_setCell_below hown (a := ⟨B + 2, 0, none⟩) (by simp) v'
   simpa [runesV] using h1
theorem ret_ros {f : Func} {p q r : Tmp} {R : Ending → World → Prop} {a : Act} {w : World} {b : Nat} {u v x y : Value} (hres : f.results = #[.cell p 25, .tmp q, .tmp r]) (hp : a.tmps.getD p undef = .pointer (some ⟨b, 0, none⟩)) (hq : a.tmps.getD q undef = x) (hr : a.tmps.getD r undef = y) (hd : a.defers = [])
  (h : w.heap[b]? = some (.cells #[u, v] 25 (0, 0))) (hR : R (.returned (.tuple #[.agg #[u, v], x, y])) w) : bodyPost Tryz.prog f R .ret a w := by
 refine bodyPost_ret (v := .tuple #[.agg #[u, v], x, y]) ?_ hd hR
 have h1 := run_loadVar_row (P := Tryz.prog) w b 25 25 #[u, v] (0, 0) _ h Tryz.underlying25 rfl (by kernel_rfl)
 have hp' : a.tmps[p]?.getD undef = .pointer (some ⟨b, 0, none⟩) := by simpa using hp
 have hq' : a.tmps[q]?.getD undef = x := by simpa using hq
 have hr' : a.tmps[r]?.getD undef = y := by simpa using hr
 simp [results, hres, hp', hq', hr', asAddr, h1]
def RdV (s : ByteArray) (e : Ending) (W : World) : Prop := ∃ v, e = .returned (.tuple #[v, .int .i64 (readR s).2.1, .int .i64 (readR s).2.2]) ∧ Ros W.heap.size W v (readR s).1
theorem rdV_nil {s : ByteArray} {x y : Int} (h : readR s = ([], x, y)) (W : World) : RdV s (.returned (.tuple #[.agg #[.slice none 0 0, .map none], .int .i64 x, .int .i64 y])) W := ⟨_, by rw [h], by rw [h]; exact ros_nil _ _⟩
theorem below_set2 {w W : World} {n B : Nat} (h : Below n w W) (hB : n ≤ B) (a b : Value) : Below n w ((W.setCell ⟨B, 0, none⟩ a).setCell ⟨B, 1, none⟩ b) := (h.setCell (p := ⟨B, 0, none⟩) hB a).setCell (p := ⟨B, 1, none⟩) hB b
theorem read_any (s : ByteArray) (hs : s.size ≤ maxLen) (w : World) : Calls Tryz.prog 6 #[.string s] w fun e w' => RdV s e w' ∧ Below w.heap.size w w' := by
 have hsz := sizeError_any s hs
 have hmm := @run_makeMap Tryz.prog
 by_cases h1 : 65536 < s.size
 · have hR : readR s = ([], 0, 2) := by rw [readR, if_pos h1]
   rw [show szE s = 2 by rw [szE, if_pos h1]] at hsz
   have HR : Hid (readR s = ([], 0, 2)) := hR
   clear hR
   go_enter Tryz.func6, Tryz.ntmps6
   go_wp2_with (go_at_call 18; refine (hsz _).mono ?_; rintro e w1 ⟨rfl, rfl⟩)
   exact ret_ros rfl rfl rfl rfl rfl (zna rfl) ⟨rdV_nil HR.out _, (Below.refl _ w).alloc (Nat.le_refl _) _⟩
 by_cases h2 : s.size = 0
 · have hR : readR s = ([], 0, 40) := by rw [readR, if_neg h1, if_pos h2]
   rw [show szE s = 40 by rw [szE, if_neg h1, if_pos h2]] at hsz
   have HR : Hid (readR s = ([], 0, 40)) := hR
   clear hR
   go_enter Tryz.func6, Tryz.ntmps6
   go_wp2_with (go_at_call 18; refine (hsz _).mono ?_; rintro e w1 ⟨rfl, rfl⟩)
   exact ret_ros rfl rfl rfl rfl rfl (zna rfl) ⟨rdV_nil HR.out _, (Below.refl _ w).alloc (Nat.le_refl _) _⟩
 have hR : readR s = rdGo [] (charsOf s) := by rw [readR, if_neg h1, if_neg h2]
 rw [show szE s = 0 by rw [szE, if_neg h1, if_neg h2]] at hsz
 have HR : Hid (readR s = rdGo [] (charsOf s)) := hR
 clear hR
 obtain ⟨ic, hic, hz0, hz1, hz2⟩ := info_parts infoR
 go_enter Tryz.func6, Tryz.ntmps6
 go_wp2_with (go_at_call 18; refine (hsz _).mono ?_; rintro e w1 ⟨rfl, rfl⟩)
 clear hsz
 go_loopw [] (fun wr => ∃ (pos fuel : Nat) (l : List Int) (v : Value) (D : DataW Unit), Hid (rdGo l (charsFrom s fuel pos) = rdGo [] (charsOf s)) ∧ s.size ≤ pos + fuel ∧ Signs l ∧ RdH w.heap.size s pos l v D wr ∧ Below w.heap.size w wr) (fun wr => s.size - wr.iterPos (w.heap.size + 3))
 case atStart =>
   have hr : Hid (rdGo [] (charsFrom s s.size 0) = rdGo [] (charsOf s)) := rfl
   refine ⟨0, s.size, [], .slice none 0 0, .map [], hr, by omega, signs_nil, ⟨zoa (zoa (zoa (zna rfl))), ?_, mapOf_nil, zoa (zna (by simp)), zna (by simp), ⟨rfl, .inl ⟨rfl, rfl⟩⟩⟩, ?_⟩
   · have h := ((World.ownsMap_made (w.alloc (.cells #[.slice none 0 0, .map none] 25)) Tryz.prog 21 (plainElem (H := Unit) Tryz.prog 3)).alloc (.cells #[.slice none 0 0, .map (some (w.heap.size + 1))] 25)).alloc (.stringIter s 0)
     have e1 : (w.alloc (.cells #[.slice none 0 0, .map none] 25)).heap.size = w.heap.size + 1 := by simp
     rw [e1] at h
     exact h
   · exact ((((Below.refl _ w).alloc (Nat.le_refl _) _).alloc (by simp) _).alloc (by simp; omega) _).alloc (by simp; omega) _
 case round =>
   obtain ⟨pos, fuel, l, v, D, hgo, hfu, hsg, hH, hbw⟩ := hrel
   have hlt := hH.lt
   have hls := hsg.short
   have hit := hH.it
   by_cases hp : pos < s.size
   · have hnx : ∀ ty, (Instr.next (.pointer (some ⟨w.heap.size + 3, 0, none⟩)) true ty).run Tryz.prog wr = .ok (.tuple #[.bool true, .int .i64 pos, .int .i32 (rn s pos)]) (wr.iterAt (w.heap.size + 3) s (pos + wdt s pos)) := fun ty => Lib.run_next_any_at wr (w.heap.size + 3) s pos ty hit hp
     have hwd := wdt_pos s pos
     have hrn := rn_le s pos
     have hb2 := Lib.below_iterAt hbw (k := w.heap.size + 3) (by omega) s (pos + wdt s pos)
     have hH2 := hH.step (pos + wdt s pos)
     obtain ⟨f, rfl⟩ : ∃ f, fuel = f + 1 := ⟨fuel - 1, by omega⟩
     rw [charsFrom_step s f pos hp] at hgo
     have hmeas : wr.iterPos (w.heap.size + 3) = pos := by simp only [World.iterPos, hit]
     generalize hW1 : wr.iterAt (w.heap.size + 3) s (pos + wdt s pos) = W1 at *
     clear hW1
     obtain ⟨ad, cap, rfl, _⟩ := row_form hH2.row
     have c0 := zca hH2.var 0
     have c1 := zca hH2.var 1
     have f0 := zta hH2.var 0
     have hlt2 := hH2.lt
     have hcall := newSign_any W1 hls hH2.ros (Nat.le_refl _) (c := (rn s pos : Int)) (by omega) (by omega)
     have HR0 := HR
     have HR2 : Hid (readR s = rdGo l ((rn s pos : Int) :: charsFrom s f (pos + wdt s pos))) := HR.out.trans hgo.out.symm
     clear hgo HR
     by_cases hC : cls (rn s pos : Int) = 4 ∧ ¬ (rn s pos : Int) ∈ l ∧ l.length < 100
     · have e0 : nwE l (rn s pos : Int) = 0 := by rw [nwE, if_pos hC.1, if_neg hC.2.1, if_pos hC.2.2]
       have HR3 : Hid (readR s = rdGo (l ++ [(rn s pos : Int)]) (charsFrom s f (pos + wdt s pos))) := by
        have := HR2.out
        rw [rdGo, if_pos hC.1, if_neg hC.2.1, if_pos hC.2.2] at this
        exact this
       have hC2 : Hid (cls (rn s pos : Int) = 4 ∧ ¬ (rn s pos : Int) ∈ l ∧ l.length < 100) := hC
       rw [e0] at hcall
       clear e0 HR2 hC
       have hkey := Maps.keyOf_int_mk (P := Tryz.prog) Tryz.underlying21 (wf_i32 (c := (rn s pos : Int)) (by omega) (by omega))
       generalize (rn s pos : Int) = c at *
       have hwr : w.heap.size ≤ W1.heap.size := by omega
       go_wp2_with (first | (go_at_call 19; refine hcall.mono ?_; rintro e W2 ⟨rfl, hb3⟩; have hH3 := hH2.below hb3; have d0 := zca hH3.var 0; have d1 := zca hH3.var 1; have hlt3 := hH3.lt) | (at_mapUpdate; refine wpList_mapUpdate_own _ rfl _ _ _ 23 rfl 21 3 keyR Tryz.underlying23 _ (w.heap.size + 1) l.length _ rfl hH3.mp (by unfold maxLen; omega) _ _ _ rfl rfl hkey _ [] (plainElem_int Tryz.underlying3 (WalkArith.wf_i64 (by omega))) ?_; intro W4 hmp4 hg4; have hv4 := (hg4.block (w.heap.size + 2) (by omega) (by simp)).trans hH3.var; have e0 := zca hv4 0; have hr4 := row_kept hH3.row hg4 (fun k e => by cases e; omega); have hl4 := Nat.le_trans hlt3 hg4.size) | (at_builtin; refine wpList_append_own _ rfl _ _ 22 rfl (w.heap.size + 4) 21 ic _ 1 4 Tryz.underlying22 hic hz0 hz1 hz2 rfl (by decide) _ _ _ rfl (hr4.alloc _) ⟨W4.heap.size, 0, none⟩ 1 1 [.int .i32 c] rfl rfl (one_at _ _ _) (by simp [Value.oneCell']) (by unfold maxLen; omega) (by omega) (by simp; omega) ?_; intro v' W5 hown' hgrow _; obtain ⟨ad', cap', rfl, _⟩ := row_form hown'; have hH5 := hH3.push hC2.out.2.1 hg4 hmp4 hown' hgrow; have hv5 := (hgrow.block (w.heap.size + 2) (by simp; omega) (fun e => absurd (row_block hH3.row _ e.symm) (by omega))).trans (zoa hv4); have i0 := zca hv5 0; have j0 := zta hv5 0; have hb5 : Below w.heap.size w W5 := (((hb2.trans (hb3.mono (by omega))).grown hg4 (by omega) (fun k e => by cases e; omega)).alloc (by omega) _).grown hgrow (by simp; omega) (fun k e => by have := row_block hH3.row k e; omega)))
       go_roundw
       case rel =>
        have hG : Hid (rdGo (l ++ [c]) (charsFrom s f (pos + wdt s pos)) = rdGo [] (charsOf s)) := HR3.out.symm.trans HR0.out
        exact ⟨pos + wdt s pos, f, l ++ [c], _, _, hG, by omega, signs_snoc hsg hC2.out.1 hC2.out.2.1 hC2.out.2.2, hH5, hb5.setCell (p := ⟨w.heap.size + 2, 0, none⟩) (by simp) _⟩
       case measure =>
        simp only [World.iterPos, hH5.it, hit]
        omega
     · have e0 : nwE l (rn s pos : Int) ≠ 0 ∧ readR s = ([], (l.length : Int), nwE l (rn s pos : Int)) := by
        have := HR2.out
        rw [rdGo] at this
        unfold nwE
        by_cases q1 : cls (rn s pos : Int) = 4
        · rw [if_pos q1] at this ⊢
          by_cases q2 : (rn s pos : Int) ∈ l
          · rw [if_pos q2] at this ⊢; exact ⟨by decide, this⟩
          · rw [if_neg q2] at this ⊢
            by_cases q3 : l.length < 100
            · exact absurd ⟨q1, q2, q3⟩ hC
            · rw [if_neg q3] at this ⊢; exact ⟨by decide, this⟩
        · rw [if_neg q1] at this ⊢; exact ⟨by decide, this⟩
       obtain ⟨e1, e2⟩ := e0
       have HE : Hid (readR s = ([], (l.length : Int), nwE l (rn s pos : Int))) := e2
       have hne : (nwE l (rn s pos : Int) == 0) = false := beq_eq_false_iff_ne.2 e1
       clear e1 e2 HR2 hC
       generalize nwE l (rn s pos : Int) = x at *
       generalize (rn s pos : Int) = c at *
       go_wp2_with (go_at_call 19; refine hcall.mono ?_; rintro e W2 ⟨rfl, hb3⟩; have hH3 := hH2.below hb3; have d0 := zca hH3.res 0; have d1 := zca hH3.res 1; have d2 := zta hH3.res 0; have d3 := zta hH3.res 1; have hlt3 := hH3.lt)
       exact ret_ros rfl rfl rfl rfl rfl (put_at 1 _ (put_at 0 _ hH3.res)) ⟨rdV_nil HE.out _, below_set2 (hb2.trans (hb3.mono (by omega))) (Nat.le_refl _) _ _⟩
   · have hnx : ∀ ty, (Instr.next (.pointer (some ⟨w.heap.size + 3, 0, none⟩)) true ty).run Tryz.prog wr = .ok (.tuple #[.bool false]) wr := fun ty => Lib.run_next_end_at wr (w.heap.size + 3) s pos ty hit hp
     have HE : Hid (readR s = (l, 0, 0)) := by
       have := hgo.out
       rw [charsFrom_end s fuel pos hp, rdGo] at this
       exact HR.out.trans this.symm
     obtain ⟨ad, cap, rfl, hrow⟩ := row_form hH.row
     have c0 := zca hH.var 0
     have c1 := zca hH.var 1
     have d0 := zca hH.res 0
     have d1 := zca hH.res 1
     have d2 := zta hH.res 0
     have d3 := zta hH.res 1
     clear hgo HR
     go_wp2
     refine ret_ros rfl rfl rfl rfl rfl (put_at 1 _ (put_at 0 _ hH.res)) ⟨⟨_, by rw [HE.out]; rfl, ?_⟩, below_set2 hbw (Nat.le_refl _) _ _⟩
     rw [HE.out]
     have hbl : Below (w.heap.size + 4) wr wr := Below.refl _ _
     refine ⟨hsg, _, _, rfl, ⟨ad, cap, rfl, fun hl => ?_⟩, .inr ⟨w.heap.size + 1, l.length, D, rfl, by simp; omega, (hH.mp.setCell (a := ⟨w.heap.size, 0, none⟩) (by simp) _).setCell (a := ⟨w.heap.size, 1, none⟩) (by simp) _, hH.mo⟩⟩
     obtain ⟨g, rfl, g1, g2, g3, g4⟩ := hrow (List.length_pos_iff.2 hl)
     refine ⟨g, rfl, by simp; exact g2, g3, fun j x hj => ?_⟩
     have e1 : ∀ (W : World) (k : Nat) (u : Value), k < g → (W.setCell ⟨k, 0, none⟩ u).cell? ⟨g, j, none⟩ = W.cell? ⟨g, j, none⟩ := fun W k u hk => World.cell?_of_block (Below.heap_setCell _ _ _ _ (by simp; omega))
     have e2 : ∀ (W : World) (k : Nat) (u : Value), k < g → (W.setCell ⟨k, 1, none⟩ u).cell? ⟨g, j, none⟩ = W.cell? ⟨g, j, none⟩ := fun W k u hk => World.cell?_of_block (Below.heap_setCell _ _ _ _ (by simp; omega))
     rw [e2 _ _ _ (by omega), e1 _ _ _ (by omega)]
     exact g4 j _ (by simp [runesV, hj])
end Go.Proofs.YtmahamdmapbilaaGreatDoor
namespace Go.Proofs.YtmahamdmapbilaaGreatDoor
open Go.RowKit
def txt (l : List Int) : ByteArray := ⟨(wr l).toArray⟩
theorem txt_data (l : List Int) : (txt l).data.toList = wr l := by simp [txt]
theorem runesBytes_go (l : List Int) : ∀ b : ByteArray, (l.foldl (fun r n => r ++ Utf8.encode n) b).data.toList = b.data.toList ++ wr l := by
 induction l with
 | nil => intro b; simp [wr]
 | cons r l ih =>
  intro b
  rw [List.foldl_cons, ih]
  simp [wr]
theorem runesBytes_txt (l : List Int) : runesBytes l = txt l := by
 apply ByteArray.ext
 apply Array.toList_inj.1
 rw [txt_data, runesBytes, runesBytes_go]
 rfl
theorem txt_size (l : List Int) : (txt l).size ≤ 4 * l.length := by
 have h : (txt l).data.toList.length = (txt l).size := by simp
 rw [txt_data] at h
 have := wr_len l
 omega
theorem loose_no_letter {s : ByteArray} {p : Nat} (h : cls (rn s p : Int) = 4) : looseB s p = false := by
 unfold looseB
 rw [decide_eq_false_iff_not]
 rintro ⟨e, _⟩
 rw [e] at h
 exact absurd h (by decide)
theorem code_letter {c : Int} (h : cls c = 4) : (code c : Int) = c := by
 have := cls_letter h
 unfold code Utf8.valid
 rw [if_pos]
 · omega
 · simp only [Bool.or_eq_true, Bool.and_eq_true, decide_eq_true_eq]
   omega
theorem chars_txt (l : List Int) (h : ∀ c ∈ l, (code c : Int) = c) : charsOf (txt l) = l := by
 obtain ⟨h1, h2⟩ := starts_wr (txt l) l [] (txt l).size (by rw [txt_data]; rfl) (by simp)
 apply List.ext_getElem?
 intro k
 unfold charsOf charsFrom
 simp only [List.length_nil] at h1 h2
 by_cases hk : k < l.length
 · have hk' : k < (startsFrom (txt l) (txt l).size 0).length := by omega
   obtain ⟨r, e1, e2, _⟩ := h2 k _ (List.getElem?_eq_getElem hk')
   rw [e1, List.getElem?_map, List.getElem?_eq_getElem hk', Option.map_some, e2, h r (List.mem_of_getElem? e1)]
 · rw [List.getElem?_eq_none (by rw [List.length_map]; omega), List.getElem?_eq_none (by omega)]
end Go.Proofs.YtmahamdmapbilaaGreatDoor
