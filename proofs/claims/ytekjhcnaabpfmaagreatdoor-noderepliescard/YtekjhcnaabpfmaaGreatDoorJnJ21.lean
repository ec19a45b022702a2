import Derived.Test.YtekjhcnaabpfmaaGreatDoorJnJ20
import Derived.Test.YtekjhcnaabpfmaaGreatDoorJnJ19
import Derived.Test.YtekjhcnaabpfmaaGreatDoorJnJ16
import Derived.Test.YtekjhcnaabpfmaaGreatDoorJnJ5
import Derived.Laws.CopyRow
set_option maxHeartbeats 40000000
set_option maxRecDepth 100000
set_option linter.unusedVariables false
namespace Go.Proofs.YtekjhcnaabpfmaaGreatDoor
open Go.RowKit Go.Shelf Go.Lib
theorem Kept.setCell {bx B m : Nat} {W : World} {B' j : Nat} {v : Value} (h1 : B' ≠ bx) (h2 : B' < B ∨ B + m ≤ B') : Kept bx B m W (W.setCell ⟨B', j, none⟩ v) :=
 ⟨by simp [World.setCell], set_other (Ne.symm h1), fun k h3 h4 => set_other (by omega)⟩
theorem below_taken {n : Nat} {w W : World} {k : Nat} (o : Obj) (h : Below n w W) (hk : n ≤ k) : Below n w (W.putObj k o) :=
 h.trans ⟨rfl, rfl, rfl, by simp, fun j hj => World.putObj_heap_other (by omega)⟩
end Go.Proofs.YtekjhcnaabpfmaaGreatDoor
namespace Go.Proofs.YtekjhcnaabpfmaaGreatDoor
open Go.RowKit Go.Shelf
structure Two (g b : Nat) (w w' : World) : Prop where
 os : w'.os = w.os
 tape : w'.tape = w.tape
 output : w'.output = w.output
 size : w.heap.size ≤ w'.heap.size
 block : ∀ k, k < w.heap.size → k ≠ g → k ≠ b → w'.heap[k]? = w.heap[k]?
theorem Two.ofGrown {g b : Nat} {w w' : World} (h : w.grownBy w' (some g)) : Two g b w w' := ⟨h.os, h.tape, h.output, h.size, fun k hk hg _ => h.block k hk (by simpa using hg)⟩
theorem Two.ofBelow {g b : Nat} {w w' : World} (h : Below w.heap.size w w') : Two g b w w' := ⟨h.os, h.tape, h.output, h.size, fun k hk _ _ => h.block k hk⟩
theorem Two.trans {g b : Nat} {u v w : World} (h : Two g b u v) (k : Two g b v w) : Two g b u w :=
 ⟨k.os.trans h.os, k.tape.trans h.tape, k.output.trans h.output, Nat.le_trans h.size k.size, fun i hi h1 h2 => (k.block i (Nat.lt_of_lt_of_le hi h.size) h1 h2).trans (h.block i hi h1 h2)⟩
theorem Two.set {g b : Nat} {u v : World} (h : Two g b u v) (j : Nat) (x : Value) : Two g b u (v.setCell ⟨b, j, none⟩ x) :=
 ⟨h.os, h.tape, h.output, by simpa using h.size, fun i hi h1 h2 => (Below.heap_setCell _ _ _ _ h2).trans (h.block i hi h1 h2)⟩
theorem Two.set4 {g b : Nat} {u v : World} (h : Two g b u v) (M : Nat) : Two g b u (set4 v b M) := (((h.set _ _).set _ _).set _ _).set _ _
theorem Two.old {g b : Nat} {u v w : World} (h : u.grownBy v (some g)) (k : Two g b v w) (hb : u.heap.size ≤ b) : u.grownBy w (some g) :=
 ⟨k.os.trans h.os, k.tape.trans h.tape, k.output.trans h.output, Nat.le_trans h.size k.size, fun i hi h1 => (k.block i (Nat.lt_of_lt_of_le hi h.size) (by simpa using h1) (by omega)).trans (h.block i hi h1)⟩
theorem Bk.set_ne {W : World} {p g b M : Nat} {l : List N3} (h : Bk W p g l) (h1 : p ≠ b) (h2 : g ≠ b) : Bk (set4 W b M) p g l := by
 unfold set4
 refine ⟨?_, ?_⟩
 · rw [Below.heap_setCell _ _ _ _ h1, Below.heap_setCell _ _ _ _ h1, Below.heap_setCell _ _ _ _ h1, Below.heap_setCell _ _ _ _ h1]; exact h.obj
 · rw [Below.heap_setCell _ _ _ _ h2, Below.heap_setCell _ _ _ _ h2, Below.heap_setCell _ _ _ _ h2, Below.heap_setCell _ _ _ _ h2]; exact h.row
theorem Bk.ne4 {W : World} {p g b : Nat} {c : Nat → Nat} {l : List N3} (h : Bk W p g l) (hs : Zh4 W b c) : p ≠ b ∧ g ≠ b := by
 constructor
 · intro e
   subst e
   have := h.obj.symm.trans hs
   simp only [Option.some.injEq, Obj.cells.injEq] at this
   exact absurd this.2.1 (by decide)
 · intro e
   subst e
   have := h.row.symm.trans hs
   simp only [Option.some.injEq, Obj.cells.injEq] at this
   exact absurd this.2.1 (by decide)
def PB (W : World) (bx p : Nat) : Prop := W.heap[bx]? = some (.cells #[.pointer (some ⟨p, 0, none⟩)] 79 (0, 0))
theorem PB.carry {W W' : World} {bx p : Nat} (h : PB W bx p) (hb : Below W.heap.size W W') : PB W' bx p := (hb.block _ (zla h)).trans h
theorem mtake_any {w : World} {p g bx bs : Nat} {l : List N3} {N : Nat} (h : Bk w p g l) (hx : PB w bx p) (hs : Zh4 w bs (wd N)) (hN : N < 2 ^ 100) (i : Nat) (t k : Int) (hi : i < l.length) (hl : l.length ≤ 100) : Calls Tryz.prog 116 #[nt (i : Int) t k, .pointer (some ⟨bx, 0, none⟩), .pointer (some ⟨bs, 0, none⟩)] w fun e w' => (∃ v, e = .returned v) ∧ Bk w' p g (bst (l, N) ((i : Int), t, k)).1 ∧ Zh4 w' bs (wd (bst (l, N) ((i : Int), t, k)).2) ∧ Two g bs w w' := by
 have c0 : w.cell? ⟨bx, 0, none⟩ = some (.pointer (some ⟨p, 0, none⟩)) := zca hx 0
 have hr := raise_at (h.alloc (.cells #[.int .i64 (i : Int), .int .i64 t, .int .i64 k] 65)) i t k hi
 unfold nt at hr
 have hlx := zla hx
 have hls := zla hs
 obtain ⟨⟨gn1, gn2⟩, hgn⟩ : ∃ q : g ≠ w.heap.size ∧ True, True := ⟨⟨by have := h.glt; omega, trivial⟩, trivial⟩
 have hgs := (h.ne4 hs).2
 obtain ⟨S, hS⟩ : ∃ S, bst (l, N) ((i : Int), t, k) = S := ⟨_, rfl⟩
 rw [hS]
 cases hb : bat l ((i : Int), t, k) with
 | false =>
  have hb' : ¬ (bat (l, N).1 ((i : Int), t, k) = true) := by show ¬ (bat l ((i : Int), t, k) = true); rw [hb]; decide
  obtain rfl : (l, N) = S := (if_neg hb').symm.trans hS
  have hrs : rse l ((i : Int), t, k) = l := if_neg (by rw [hb]; decide)
  rw [hb, hrs] at hr
  clear hb hb' hrs hS
  go_enter Tryz.func116, Tryz.ntmps116
  unfold nt
  go_wp2_with (go_at_call 117; (with_reducible refine hr.mono ?_); rintro e u1 ⟨rfl, hk1, hg1⟩)
  go_end0
  exact ⟨⟨_, rfl⟩, hk1, (hg1.block _ (by simp; omega) (by simpa using fun e => hgs e.symm)).trans (zoa hs), (Two.ofBelow (al1 _ _)).trans (Two.ofGrown hg1)⟩
 | true =>
  have hb' : bat (l, N).1 ((i : Int), t, k) = true := hb
  obtain rfl : (rse l ((i : Int), t, k), N ||| 2 ^ i) = S := (show _ = bst (l, N) ((i : Int), t, k) by unfold bst; rw [if_pos hb', Int.toNat_natCast]).trans hS
  rw [hb] at hr
  have hw := fun W => with_any N (i : Int) W
  have e3 : withV N (i : Int) = .tuple #[sv (N ||| 2 ^ i), .int .i64 0] := by
   unfold withV
   rw [if_pos (by omega), cln_of_lt hN, Int.toNat_natCast]
  rw [e3] at hw
  clear hb hb' hS e3
  generalize rse l ((i : Int), t, k) = m at *
  generalize N ||| 2 ^ i = M at *
  have hbox := NB.new w (i : Int) t k
  unfold sv at hw
  go_enter Tryz.func116, Tryz.ntmps116
  unfold nt
  go_wp2_with (first | (go_at_call 117; (with_reducible refine hr.mono ?_); rintro e u1 ⟨rfl, hk1, hg1⟩; have hs1 : Zh4 u1 bs (wd N) := (hg1.block _ (by simp; omega) (by simpa using fun e => hgs e.symm)).trans (zoa hs); have hn1 : NB u1 w.heap.size (i : Int) t k := (hg1.block _ (by simp) (by simpa using fun e => gn1 e.symm)).trans hbox; have n0 := hn1.c0; have x0 := hs1.cell 0 (by decide); have x1 := hs1.cell 1 (by decide); have x2 := hs1.cell 2 (by decide); have x3 := hs1.cell 3 (by decide); have HS1 : Hid (Zh4 u1 bs (wd N)) := hs1; clear hs1) | (go_at_call 63; (with_reducible refine (hw _).mono ?_); rintro e u2 ⟨rfl, hb2⟩; have HS2 : Hid (Zh4 u2 bs (wd N)) := HS1.out.carry hb2; obtain ⟨y0, y1, y2, y3, z0, z1, z2, z3⟩ := HS2.out.facts))
  go_end0
  exact ⟨⟨_, rfl⟩, (hk1.carry hb2).set_ne ((hk1.carry hb2).ne4 HS2.out).1 ((hk1.carry hb2).ne4 HS2.out).2, fin4 HS2.out M, (((Two.ofBelow (al1 _ _)).trans (Two.ofGrown hg1)).trans (Two.ofBelow hb2)).set4 M⟩
theorem fold_rse_len : ∀ (m l : List N3), (m.foldl rse l).length = l.length
 | [], _ => rfl
 | x :: m, l => (fold_rse_len m (rse l x)).trans (rse_len l x)
def stt (l m : List N3) (k : Nat) : List N3 × Nat := (m.take k).foldl bst (l, 0)
theorem stt_step {l m : List N3} {k : Nat} {x : N3} (h : m[k]? = some x) : stt l m (k + 1) = bst (stt l m k) x := by
 unfold stt
 rw [List.take_add_one, h]
 simp
theorem stt_len (l m : List N3) (k : Nat) : (stt l m k).1.length = l.length := by
 unfold stt
 rw [fold_bst]
 exact fold_rse_len _ _
theorem stt_lt {l m : List N3} (h : m.all (vlx l.length) = true) (k : Nat) : (stt l m k).2 < 2 ^ 100 :=
 bst_lt _ 0 (List.all_eq_true.2 fun x hx => List.all_eq_true.1 h x (List.mem_of_mem_take hx)) (by decide)
theorem grown_res {w W : World} {g b M : Nat} (h : w.grownBy W (some g)) (hb : w.heap.size ≤ b) : w.grownBy (set4 W b M) (some g) := by
 have e4 : ∀ i, i < w.heap.size → (set4 W b M).heap[i]? = W.heap[i]? := fun i hi => by
  unfold set4
  rw [Below.heap_setCell _ _ _ _ (show i ≠ b by omega), Below.heap_setCell _ _ _ _ (show i ≠ b by omega), Below.heap_setCell _ _ _ _ (show i ≠ b by omega), Below.heap_setCell _ _ _ _ (show i ≠ b by omega)]
 exact ⟨h.os, h.tape, h.output, by unfold set4; simpa using h.size, fun i hi hg => (e4 i hi).trans (h.block i hi hg)⟩
structure JM1 (w : World) (p g : Nat) (l : List N3) (W : World) : Prop where
 box : PB W w.heap.size p
 res : Zh4 W (w.heap.size + 1) (fun _ => 0)
 book : Bk W p g l
 below : Below w.heap.size w W
theorem JM1.carry {w W V : World} {p g : Nat} {l : List N3} (h : JM1 w p g l W) (hb : Below W.heap.size W V) : JM1 w p g l V := ⟨h.box.carry hb, h.res.carry hb, h.book.carry hb, bel2 h.below hb⟩
structure JM2 (w : World) (p g bs : Nat) (s : List N3 × Nat) (W : World) : Prop where
 box : PB W w.heap.size p
 res : Zh4 W (w.heap.size + 1) (fun _ => 0)
 book : Bk W p g s.1
 set : Zh4 W bs (wd s.2)
 old : w.grownBy W (some g)
theorem JM2.carry {w W V : World} {p g bs : Nat} {s : List N3 × Nat} (h : JM2 w p g bs s W) (hb : Below W.heap.size W V) : JM2 w p g bs s V := ⟨h.box.carry hb, h.res.carry hb, h.book.carry hb, h.set.carry hb, grown_and h.old hb⟩
theorem JM2.turn {w W V : World} {p g bs : Nat} {s s' : List N3 × Nat} (h : JM2 w p g bs s W) (hbs : w.heap.size + 1 < bs) (hgw : g < w.heap.size) (h1 : Bk V p g s'.1) (h2 : Zh4 V bs (wd s'.2)) (h3 : Two g bs W V) : JM2 w p g bs s' V := by
 refine ⟨(h3.block _ (zla h.box) (by omega) (by omega)).trans h.box, (h3.block _ (zla h.res) (by omega) (by omega)).trans h.res, h1, h2, Two.old h.old h3 (by omega)⟩
theorem RdN.turn {W V : World} {g : Nat} {ad : Option Addr} {m : List N3} (h : RdN W ad m) (hg : W.grownBy V (some g)) (hne : m ≠ [] → ∀ a, ad = some a → a.block ≠ g) : RdN V ad m := by
 intro hl
 obtain ⟨b, off, h1, h2, h3⟩ := h hl
 have hb : V.heap[b]? = W.heap[b]? := hg.block b h2 (by simpa using hne hl _ h1)
 refine ⟨b, off, h1, Nat.lt_of_lt_of_le h2 hg.size, fun k x hk => ?_⟩
 obtain ⟨c0, c1, c2⟩ := h3 k x hk
 exact ⟨(World.cell?_of_block (a := ⟨b, _, none⟩) hb).trans c0, (World.cell?_of_block (a := ⟨b, _, none⟩) hb).trans c1, (World.cell?_of_block (a := ⟨b, _, none⟩) hb).trans c2⟩
theorem load_pb {W : World} {bx p : Nat} (h : PB W bx p) : (Instr.loadAt 79 (.pointer (some ⟨bx, 0, none⟩))).run Tryz.prog W = .ok (.pointer (some ⟨p, 0, none⟩)) W := by
 have c0 : W.cell? ⟨bx, 0, none⟩ = some (.pointer (some ⟨p, 0, none⟩)) := zca h 0
 go_simp
theorem merge_any {w : World} {p g : Nat} {l : List N3} (h : Bk w p g l) (ad : Option Addr) (cap : Nat) (m : List N3) (hm : RdN w ad m) (hne : m ≠ [] → ∀ a, ad = some a → a.block ≠ g) (hl : m.length ≤ 6000000000000) : Calls Tryz.prog 81 #[.pointer (some ⟨p, 0, none⟩), .slice ad m.length cap] w fun e w' => e = .returned (.tuple #[sv (mrs l m), .int .i64 (if m.all (vlx l.length) = true then 0 else 50)]) ∧ Bk w' p g (mrg l m) ∧ w.grownBy w' (some g) := by
 have hmx := mixO
 obtain ⟨n, hn⟩ : ∃ n, m.length = n := ⟨_, rfl⟩
 have HN : Hid (m.length = n) := hn
 rw [hn] at hl ⊢
 clear hn
 have HM : Hid (RdN w ad m) := hm
 have HNE : Hid (m ≠ [] → ∀ a, ad = some a → a.block ≠ g) := hne
 obtain ⟨E, hE⟩ : ∃ E : Int, (if m.all (vlx l.length) = true then (0 : Int) else 50) = E := ⟨_, rfl⟩
 obtain ⟨N, hN⟩ : ∃ N, mrs l m = N := ⟨_, rfl⟩
 obtain ⟨M, hM⟩ : ∃ M, mrg l m = M := ⟨_, rfl⟩
 rw [hE, hN, hM]
 have HE : Hid ((if m.all (vlx l.length) = true then (0 : Int) else 50) = E) := hE
 have HNN : Hid (mrs l m = N) := hN
 have HMM : Hid (mrg l m = M) := hM
 clear hE hN hM
 have hgw := h.glt
 have hj0 : JM1 w p g l ((w.alloc (.cells #[.pointer (some ⟨p, 0, none⟩)] 79)).alloc (.cells #[.int .u32 0, .int .u32 0, .int .u32 0, .int .u32 0] 35)) := ⟨zoa (zna rfl), zna (by simp), (h.alloc _).alloc _, al2 _ _ _⟩
 clear hm hne h
 go_enter Tryz.func81, Tryz.ntmps81
 go_wp2
 go_loopw [14] (fun i wz => ∃ (k : Nat), i = .int .i64 k ∧ k ≤ n ∧ Hid ((m.take k).all (vlx l.length) = true) ∧ JM1 w p g l wz) (fun i _ => n - vnatR i)
 case atStart => exact ⟨0, rfl, Nat.zero_le _, rfl, hj0⟩
 case round =>
  obtain ⟨k, rfl, hk, HK, hj⟩ := hrel
  clear hj0
  by_cases hkl : k < n
  · have hkl1 : k < m.length := by rw [HN.out]; exact hkl
    have hki : (k : Int) < (n : Int) := by omega
    obtain ⟨⟨o, t, q⟩, hx⟩ : ∃ x, m[k]? = some x := ⟨_, List.getElem?_eq_getElem hkl1⟩
    obtain ⟨b, off, e1, hbl, hat⟩ := HM.out.carry hj.below (fun e => by rw [e] at hkl1; simp at hkl1)
    subst e1
    obtain ⟨c0, c1, c2⟩ := hat k _ hx
    dsimp only at c0 c1 c2
    have HX : Hid (m[k]? = some (o, t, q)) := hx
    have hva := valid_any (l.length : Int) o t q
    obtain ⟨B, hB⟩ : ∃ B, vl (l.length : Int) o t q = B := ⟨_, rfl⟩
    rw [hB] at hva
    have HB : Hid (vlx l.length (o, t, q) = B) := hB
    have hn1 : NB (wr.alloc (.cells #[.int .i64 o, .int .i64 t, .int .i64 q] 65)) wr.heap.size o t q := NB.new _ _ _ _
    have hj1 := hj.carry (al1 wr (.cells #[.int .i64 o, .int .i64 t, .int .i64 q] 65))
    clear hx hat hkl1 hB
    go_wp2
    rename_i Q0 K0 hK
    refine wp_region_any hmx ?_
    refine zwp (fun i__ => ([(.pointer (some ⟨p, 0, none⟩)), (.int .i64 (l.length : Int)), (nt o t q), (.bool B), (.bool (!B))] : List Value).getD i__ undef) (fun V => NB V wr.heap.size o t q ∧ JM1 w p g l V) (by kernel_rfl) ⟨hn1.carry (Below.refl _ _).drew, hj1.carry (Below.refl _ _).drew⟩ ?_ ?_
    · refine (sqc ?_ (sqc ?_ (sqc ?_ (sqc ?_ (sqc ?_ trivial)))))
      · exact zld rfl trivial _ _ _ rfl rfl (fun w hw => load_pb hw.2.box)
      · exact zsc rfl trivial 79 _ _ [(.pointer (some ⟨p, 0, none⟩))] rfl (by kernel_rfl) (enters_of Tryz.func79 (by kernel_rfl) rfl) (fun w hw => (bsize_any hw.2.book).mono (by rintro e w' ⟨rfl, hb⟩; exact ⟨rfl, hw.1.carry hb, hw.2.carry hb⟩))
      · exact zld rfl trivial _ _ _ rfl rfl (fun w hw => load_nt hw.1)
      · exact zsc rfl trivial 113 _ _ [(.int .i64 (l.length : Int)), (nt o t q)] rfl (by kernel_rfl) (enters_of Tryz.func113 (by kernel_rfl) rfl) (fun w hw => (hva w).mono (by rintro e w' ⟨rfl, hb⟩; exact ⟨rfl, hw.1.carry hb, hw.2.carry hb⟩))
      · exact step_unOp rfl trivial _ _ _ _ rfl rfl (fun w hw => un_notN B w)
    intro W hW
    first | refine hK _ _ ?_ | refine (‹∀ (a : Act) (w : World), Code.wp Tryz.prog _ _ a w → _›) _ _ ?_
    simp only [finL, List.getD_cons_zero, List.getD_cons_succ, Nat.zero_add, Nat.reduceAdd, List.setIfInBounds_toArray, List.set_cons_zero, List.set_cons_succ]
    obtain ⟨hn2, hj2⟩ := hW
    clear hj1 hn1 hK hva
    cases B with
    | false =>
      have HF : Hid (m.all (vlx l.length) = false) := by
        show m.all (vlx l.length) = false
        have h1 := HB.out
        by_cases q : m.all (vlx l.length) = true
        · exact absurd (List.all_eq_true.1 q _ (List.mem_of_getElem? HX.out)) (by rw [h1]; decide)
        · simpa using q
      have HR : Hid (Zh4 W (w.heap.size + 1) (fun _ => 0)) := hj2.res
      obtain ⟨y0, y1, y2, y3, z0, z1, z2, z3⟩ := HR.out.facts
      go_wp2
      refine ret4t (M := 0) (x := .int .i64 50) rfl rfl rfl rfl (fin4 HR.out 0) ?_
      have hne := hj2.book.ne4 HR.out
      obtain rfl : (50 : Int) = E := by rw [← HE.out, if_neg (by rw [HF.out]; decide)]
      obtain rfl : 0 = N := by rw [← HNN.out]; unfold mrs; rw [if_neg (by rw [HF.out]; decide)]
      obtain rfl : l = M := by rw [← HMM.out]; unfold mrg; rw [if_neg (by rw [HF.out]; decide)]
      exact ⟨rfl, hj2.book.set_ne (M := 0) hne.1 hne.2, grown_res (M := 0) (grown_below0 hj2.below g) (Nat.le_succ _)⟩
    | true =>
      have HK1 : Hid ((m.take (k + 1)).all (vlx l.length) = true) := by
        show (m.take (k + 1)).all (vlx l.length) = true
        rw [List.take_add_one, HX.out, List.all_append, HK.out]
        simpa using HB.out
      go_wp2
      go_roundw
      case rel => exact ⟨k + 1, by simp, by omega, HK1, hj2⟩
      case measure => simp [vnatR]; omega
  · have hkk : k = n := by omega
    subst hkk
    have HA : Hid (m.all (vlx l.length) = true) := by
      have := HK.out
      rwa [List.take_of_length_le (by rw [HN.out]; exact Nat.le_refl _)] at this
    clear HK
    have hj3 : JM2 w p g wr.heap.size (stt l m 0) (wr.alloc (.cells #[.int .u32 0, .int .u32 0, .int .u32 0, .int .u32 0] 35)) := ⟨hj.box.carry (al1 _ _), hj.res.carry (al1 _ _), hj.book.alloc _, Zh4.congr (c := fun _ => 0) (zna rfl) (fun j _ => (wd_zero j).symm), grown_and (grown_below0 hj.below g) (al1 _ _)⟩
    have hbs : w.heap.size + 1 < wr.heap.size := zla hj.res
    clear hj
    go_wp2
    obtain ⟨bs, hbd⟩ : ∃ bs, wr.heap.size = bs := ⟨_, rfl⟩
    rw [hbd] at hj3 hbs ⊢
    go_loopw [28] (fun i wz => ∃ (j : Nat), i = .int .i64 j ∧ j ≤ k ∧ JM2 w p g bs (stt l m j) wz) (fun i _ => k - vnatR i)
    case atStart => exact ⟨0, rfl, Nat.zero_le _, hj3⟩
    case round =>
      obtain ⟨j, rfl, hjk, hj⟩ := hrel
      clear hj3
      by_cases hjl : j < k
      · have hjl1 : j < m.length := by rw [HN.out]; exact hjl
        have hji : (j : Int) < (k : Int) := by omega
        obtain ⟨⟨o, t, q⟩, hx⟩ : ∃ x, m[j]? = some x := ⟨_, List.getElem?_eq_getElem hjl1⟩
        have hv := List.all_eq_true.1 HA.out _ (List.mem_of_getElem? hx)
        obtain ⟨_, h100, h0, h1, _⟩ := vlx_iff.1 hv
        obtain ⟨i, rfl⟩ : ∃ i : Nat, o = (i : Int) := ⟨o.toNat, by simpa using (Int.toNat_of_nonneg h0).symm⟩
        have hi : i < l.length := by simpa using h1
        obtain ⟨b, off, e1, hbl, hat⟩ := (HM.out.turn hj.old HNE.out) (fun e => by rw [e] at hjl1; simp at hjl1)
        subst e1
        obtain ⟨c0, c1, c2⟩ := hat j _ hx
        dsimp only at c0 c1 c2
        have hn1 : NB (wr.alloc (.cells #[.int .i64 (i : Int), .int .i64 t, .int .i64 q] 65)) wr.heap.size (i : Int) t q := NB.new _ _ _ _
        have hj1 := hj.carry (al1 wr (.cells #[.int .i64 (i : Int), .int .i64 t, .int .i64 q] 65))
        have hc := mtake_any hj1.book hj1.box hj1.set (stt_lt HA.out j) i t q (by rw [stt_len]; exact hi) (by rw [stt_len]; exact h100)
        have HS : Hid (stt l m (j + 1) = bst ((stt l m j).1, (stt l m j).2) ((i : Int), t, q)) := stt_step hx
        unfold nt at hc
        clear hx hat hjl1 hv h0 h1
        go_wp2_with (go_at_call 116; (with_reducible refine hc.mono ?_); rintro e u1 ⟨⟨v, rfl⟩, hk1, hs1, ht1⟩)
        go_roundw
        case rel =>
          refine ⟨j + 1, by simp, by omega, ?_⟩
          rw [HS.out]
          exact hj1.turn hbs hgw hk1 hs1 ht1
        case measure => simp [vnatR]; omega
      · have hkk : j = k := by omega
        subst hkk
        have HR : Hid (Zh4 wr (w.heap.size + 1) (fun _ => 0)) := hj.res
        obtain ⟨y0, y1, y2, y3, z0, z1, z2, z3⟩ := HR.out.facts
        obtain ⟨x0, x1, x2, x3, _, _, _, _⟩ := hj.set.facts
        go_wp2
        refine ret4t (M := (stt l m j).2) (x := .int .i64 0) rfl rfl rfl rfl (fin4 HR.out _) ?_
        have e0 : stt l m j = m.foldl bst (l, 0) := by unfold stt; rw [List.take_of_length_le (by rw [HN.out]; exact Nat.le_refl _)]
        have hne := hj.book.ne4 HR.out
        obtain rfl : (0 : Int) = E := by rw [← HE.out, if_pos HA.out]
        obtain rfl : (stt l m j).2 = N := by rw [← HNN.out]; unfold mrs; rw [if_pos HA.out, e0]
        obtain rfl : (stt l m j).1 = M := by rw [← HMM.out]; unfold mrg; rw [if_pos HA.out, e0, fold_bst]
        exact ⟨rfl, hj.book.set_ne hne.1 hne.2, grown_res hj.old (Nat.le_succ _)⟩
theorem run_copy3 (w : World) (ty : TypeId) (g b n : Nat) (cur : Array Value) (t : TypeId) (cs : List Value) (hg : w.heap[g]? = some (.cells cur t (0, 0))) (hn : cs.length = n * 3)
  (hsrc : ∀ j v, cs[j]? = some v → w.cell? ((⟨b, 0, none⟩ : Addr).add j) = some v) (hfit : cs.length = cur.size) (h1 : ∀ v ∈ cs, v.oneCell' = true) :
  (Builtin.copy_ #[36, 36] ty #[.slice (some ⟨g, 0, none⟩) n n, .slice (some ⟨b, 0, none⟩) n n]).run Tryz.prog w = .ok (goInt n) (w.setRow g cs.toArray) := by
 have hl := run_loadCells_list (P := Tryz.prog) w ⟨b, 0, none⟩ cs hsrc
 have hst := run_storeCells_at Tryz.prog g 0 t cs 0 cur w hg (by omega) h1
 obtain ⟨ic, hic, _, hz1, _⟩ := info_partsN
 have e : cur.toList.take 0 ++ cs ++ cur.toList.drop (0 + cs.length) = cs := by
  rw [List.drop_of_length_le (by simp; omega)]
  simp
 simp only [Nat.zero_add, Nat.add_zero] at hst
 simp [Builtin.copy_, run_underlying Tryz.underlying36, Builtin.lenOf, Builtin.firstCells, sizeOf, typeInfo, hic, hz1, ← hn, hl, hst]
 rw [List.drop_of_length_le (by simp; omega)]
 simp
theorem bi_copy3 (w : World) (ty : TypeId) (bs : Array Bool) (g b n : Nat) (cur : Array Value) (t : TypeId) (cs : List Value) (hg : w.heap[g]? = some (.cells cur t (0, 0))) (hn : cs.length = n * 3)
  (hsrc : ∀ j v, cs[j]? = some v → w.cell? ((⟨b, 0, none⟩ : Addr).add j) = some v) (hfit : cs.length = cur.size) (h1 : ∀ v ∈ cs, v.oneCell' = true) :
  (builtin .copy #[36, 36] ty bs #[.slice (some ⟨g, 0, none⟩) n n, .slice (some ⟨b, 0, none⟩) n n]).run Tryz.prog w = .ok (.value (.int .i64 (n : Int))) (w.setRow g cs.toArray) := by
 have h := run_copy3 w ty g b n cur t cs hg hn hsrc hfit h1
 unfold builtin
 simp only [Sem.run_bind, h, Result.andThen_ok, Sem.run_pure]
 rfl
section
variable {P : Program} {md : Region.Mode} {ops : Array Oper} {Q : Exit → Act → World → Prop} {X0 : Array Value} {val : Nat → Value} {J J' : World → Prop} {i : Nat} {o : Oper}
theorem step_biW (hi : ops[i]? = some o) (hg : GOk md ops X0 val i o) (b : Builtin) (xs : Array Operand) (ts : Array TypeId) (vs : List Value) (ho : o.op = .call { callee := .builtin b, args := xs, argTypes := ts })
  (hx : xs.toList.map (rdo md ops X0 val i o) = vs.map some) (hr : ∀ w, J w → ∃ w', (∀ cs, (builtin b ts o.type cs vs.toArray).run P w = .ok (.value (val i)) w') ∧ J' w') : StepAt P md ops Q X0 val J J' i o :=
 step_of hi hg fun a w hJ hS => by
  unfold Oper.wp execOp
  have e : xs.map a.eval = vs.toArray := by
   apply Array.toList_inj.1
   rw [Array.toList_map]
   exact hS.evals _ _ hx
  obtain ⟨w', hr1, hr2⟩ := hr w hJ
  simp only [ho, resolve, e, Sem.run_bind, Sem.run_pure, Result.andThen_ok, invoke, hr1 _, Oper.upon_value]
  exact ⟨trivial, hr2⟩
end
theorem fl_src (l : List N3) {W : World} {p g : Nat} (h : Bk W p g l) : ∀ j v, (fl l)[j]? = some v → W.cell? ((⟨g, 0, none⟩ : Addr).add j) = some v := fun j v hj => by
 rw [add_pl, Nat.zero_add]
 exact (zca h.row j).trans (by simpa using hj)
theorem Bk.setRow {W : World} {p g : Nat} {l m : List N3} (h : Bk W p g l) (hm : m.length = l.length) : Bk (W.setRow g (fl m).toArray) p g m := by
 refine ⟨?_, ?_⟩
 · have e : (W.setRow g (fl m).toArray).heap[p]? = W.heap[p]? := by simp [World.setRow, Array.getElem?_modify, h.ne.symm]
   rw [e, hm]
   exact h.obj
 · simp [World.setRow, Array.getElem?_modify, h.row]
theorem below_sr {n b : Nat} {w W : World} {cs : Array Value} (h : Below n w W) (hn : n ≤ b) : Below n w (W.setRow b cs) :=
 h.trans ⟨rfl, rfl, rfl, by simp [World.setRow], fun k hk => by simp [World.setRow, Array.getElem?_modify, show b ≠ k by omega]⟩
theorem twin_any {w : World} {p g : Nat} {l : List N3} (h : Bk w p g l) (h0 : 0 < l.length) (h1 : l.length ≤ 100) : Calls Tryz.prog 105 #[.pointer (some ⟨p, 0, none⟩)] w fun e w' => ∃ p' g', e = .returned (.pointer (some ⟨p', 0, none⟩)) ∧ w.heap.size ≤ p' ∧ w.heap.size ≤ g' ∧ Bk w' p' g' l ∧ Below w.heap.size w w' := by
 have hmx := mixO
 obtain ⟨N, hN⟩ : ∃ N, l.length = N := ⟨_, rfl⟩
 have HN : Hid (l.length = N) := hN
 have hsz := bsize_any (h.alloc (.cells #[.slice none 0 0] 136))
 rw [hN] at hsz h0 h1
 clear hN
 have hpi : (0 : Int) < (N : Int) := by omega
 obtain ⟨ic, hic, hz0, hz1, hz2⟩ := info_partsN
 have hmk : ∀ W : World, (Instr.makeSlice 36 (.int .i64 (N : Int)) (.int .i64 (N : Int))).run Tryz.prog W = .ok (.slice (some ⟨W.heap.size, 0, none⟩) N N) (W.alloc (.cells (fl (mkl N 0)).toArray 65)) := by
   intro W
   have := run_make (P := Tryz.prog) W 36 65 ic _ Tryz.underlying36 hic hz0 .i64 .i64 (N : Int) (N : Int) (by omega) (Int.le_refl _) (by rw [hz2]; omega) (by omega)
   rw [Int.toNat_natCast, hz1, made3, ← mkl_zero] at this
   exact this
 generalize hM0 : (fl (mkl N 0)).toArray = M0 at hmk
 have HM0 : Hid ((fl (mkl N 0)).toArray = M0) := hM0
 clear hM0 hic hz0 hz1 hz2
 go_enter Tryz.func105, Tryz.ntmps105
 go_wp2_with (go_at_call 79; (with_reducible refine hsz.mono ?_); rintro e u1 ⟨rfl, hb1⟩; have hbx : u1.heap[w.heap.size]? = some (.cells #[.slice none 0 0] 136 (0, 0)) := (hb1.block _ (by simp)).trans (zna rfl); have hk1 : Bk u1 p g l := (h.alloc _).carry hb1; have hbw := bel2 (al1 w (.cells #[.slice none 0 0] 136)) hb1; have HBX : Hid (u1.heap[w.heap.size]? = some (.cells #[.slice none 0 0] 136 (0, 0))) := hbx; have x0 := zca hbx 0; have x1 := zta hbx 0; have hlt := zla hbx; clear hbx; simp at x0)
 have hk2 : Bk ((u1.setCell ⟨w.heap.size, 0, none⟩ (.slice (some ⟨u1.heap.size, 0, none⟩) N N)).alloc (.cells M0 65)) p g l := by
   have hne1 : p ≠ w.heap.size := by have := h.plt; omega
   have hne2 : g ≠ w.heap.size := by have := h.glt; omega
   exact ⟨zoa ((Below.heap_setCell _ _ _ _ hne1).trans hk1.obj), zoa ((Below.heap_setCell _ _ _ _ hne2).trans hk1.row)⟩
 have ht2 : Bk ((u1.setCell ⟨w.heap.size, 0, none⟩ (.slice (some ⟨u1.heap.size, 0, none⟩) N N)).alloc (.cells M0 65)) w.heap.size u1.heap.size (mkl N 0) := by
   refine ⟨?_, ?_⟩
   · have := heap_setCell_same _ _ 0 _ _ (.slice (some ⟨u1.heap.size, 0, none⟩) N N) HBX.out
     rw [mkl_len]
     refine zoa (this.trans ?_)
     simp
   · rw [HM0.out]
     exact zna (by simp)
 have hb2 : Below w.heap.size w ((u1.setCell ⟨w.heap.size, 0, none⟩ (.slice (some ⟨u1.heap.size, 0, none⟩) N N)).alloc (.cells M0 65)) := (hbw.setCell (Nat.le_refl _) _).alloc (by simpa using hbw.size) _
 have hg1 := h.glt
 have hp1 := h.plt
 refine wp_region_any hmx ?_
 refine zwl 8 (fun i__ => ([(.pointer (some ⟨w.heap.size, 0, none⟩)), (.pointer (some ⟨w.heap.size, 0, none⟩)), (.pointer (some ⟨w.heap.size, 0, none⟩)), (.slice (some ⟨u1.heap.size, 0, none⟩) N N), (.pointer (some ⟨p, 0, none⟩)), (.pointer (some ⟨p, 0, none⟩)), (.pointer (some ⟨p, 0, none⟩)), (.slice (some ⟨g, 0, none⟩) N N), (.int .i64 (N : Int))] : List Value).getD i__ undef) (fun V => Bk V p g l ∧ Bk V w.heap.size u1.heap.size (mkl N 0) ∧ Below w.heap.size w V) (fun V => Bk V w.heap.size u1.heap.size l ∧ Below w.heap.size w V) rfl (by kernel_rfl) (by kernel_rfl) ⟨hk2.carry (Below.refl _ _).drew, ht2.carry (Below.refl _ _).drew, hb2.drew⟩ ?_ ?_  ?_
 · refine (sqc ?_ (sqc ?_ (sqc ?_ (sqc ?_ (sqc ?_ (sqc ?_ (sqc ?_ (sqc ?_ trivial))))))))
   · exact zmv rfl trivial _ rfl (by kernel_rfl)
   · exact znc rfl trivial _ _ _ rfl rfl rfl
   · exact zfa rfl trivial _ _ _ _ rfl rfl (fun w hw => field_b0 w _)
   · exact zld rfl trivial _ _ _ rfl rfl (fun w hw => by have := load_b0 hw.2.1; rwa [mkl_len] at this)
   · exact zmv rfl trivial _ rfl (by kernel_rfl)
   · exact znc rfl trivial _ _ _ rfl rfl rfl
   · exact zfa rfl trivial _ _ _ _ rfl rfl (fun w hw => field_b0 w _)
   · exact zld rfl trivial _ _ _ rfl rfl (fun w hw => by have := load_b0 hw.1; rwa [HN.out] at this)
 · intro o ho
   cases ho
   exact step_biW rfl trivial _ _ _ [(.slice (some ⟨u1.heap.size, 0, none⟩) N N), (.slice (some ⟨g, 0, none⟩) N N)] rfl (by kernel_rfl) (fun W hw => ⟨_, fun cs => bi_copy3 W _ cs u1.heap.size g N _ _ (fl l) hw.2.1.row (by rw [fl_len, HN.out]) (fl_src l hw.1) (by simp [fl_len, mkl_len, HN.out]) (fl_one l), hw.2.1.setRow (by rw [mkl_len]; exact HN.out), below_sr hw.2.2 (by omega)⟩)
 intro W hW
 first | refine hK _ _ ?_ | refine (‹∀ (a : Act) (w : World), Code.wp Tryz.prog _ _ a w → _›) _ _ ?_
 simp only [finL, List.getD_cons_zero, List.getD_cons_succ, Nat.zero_add, Nat.reduceAdd, List.setIfInBounds_toArray, List.set_cons_zero, List.set_cons_succ]
 go_wp2
 go_ret
 exact ⟨_, _, rfl, Nat.le_refl _, by omega, hW.1, hW.2⟩
end Go.Proofs.YtekjhcnaabpfmaaGreatDoor
