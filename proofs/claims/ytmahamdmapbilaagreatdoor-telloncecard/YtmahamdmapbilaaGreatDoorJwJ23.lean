import Derived.Test.YtmahamdmapbilaaGreatDoorJwJ18
import Derived.Test.YtmahamdmapbilaaGreatDoorJwJ12
import Derived.Lib.SlBytesConst
import Derived.Test.YtmahamdmapbilaaGreatDoorJwJ17
import Derived.Test.YtmahamdmapbilaaGreatDoorJwJ10
import Derived.Test.YtmahamdmapbilaaGreatDoorJwJ22
import Derived.Laws.AppendOwnNone
import Derived.ArgAppend
set_option maxHeartbeats 40000000
set_option maxRecDepth 100000
set_option linter.unusedVariables false
namespace Go.Proofs.YtmahamdmapbilaaGreatDoor
open Go.RowKit Go.Shelf
def fcs (kd : Nat) (fr rd : Int) (N : Nat) (v : Value) : Array Value := #[.int .i64 (kd : Int), .int .i64 fr, .int .i64 rd, .int .u32 (wd N 0 : Nat), .int .u32 (wd N 1 : Nat), .int .u32 (wd N 2 : Nat), .int .u32 (wd N 3 : Nat), v]
def fv (kd : Nat) (fr rd : Int) (N : Nat) (v : Value) : Value := .agg (fcs kd fr rd N v)
def FB (W : World) (b kd : Nat) (fr rd : Int) (N : Nat) (v : Value) : Prop := W.heap[b]? = some (.cells (fcs kd fr rd N v) 329 (0, 0))
theorem FB.carry {W W' : World} {b kd : Nat} {fr rd : Int} {N : Nat} {v : Value} (h : FB W b kd fr rd N v) (e : W'.heap[b]? = W.heap[b]?) : FB W' b kd fr rd N v := e.trans h
theorem FB.below {W W' : World} {b kd B : Nat} {fr rd : Int} {N : Nat} {v : Value} (h : FB W b kd fr rd N v) (hb : Below B W W') (hB : b < B) : FB W' b kd fr rd N v := h.carry (hb.block b hB)
theorem FB.lt {W : World} {b kd : Nat} {fr rd : Int} {N : Nat} {v : Value} (h : FB W b kd fr rd N v) : b < W.heap.size := zla h
theorem FB.cells {W : World} {b kd : Nat} {fr rd : Int} {N : Nat} {v : Value} (h : FB W b kd fr rd N v) : W.cell? ⟨b, 0, none⟩ = some (.int .i64 (kd : Int)) ∧ W.cell? ⟨b, 1, none⟩ = some (.int .i64 fr) ∧ W.cell? ⟨b, 2, none⟩ = some (.int .i64 rd) ∧ W.cell? ⟨b, 3, none⟩ = some (.int .u32 (wd N 0 : Nat)) ∧ W.cell? ⟨b, 4, none⟩ = some (.int .u32 (wd N 1 : Nat)) ∧ W.cell? ⟨b, 5, none⟩ = some (.int .u32 (wd N 2 : Nat)) ∧ W.cell? ⟨b, 6, none⟩ = some (.int .u32 (wd N 3 : Nat)) ∧ W.cell? ⟨b, 7, none⟩ = some v :=
 ⟨cell_ofQ h 0, cell_ofQ h 1, cell_ofQ h 2, cell_ofQ h 3, cell_ofQ h 4, cell_ofQ h 5, cell_ofQ h 6, cell_ofQ h 7⟩
theorem al1' (w : World) (o : Obj) : Below w.heap.size w (w.alloc o) := alloc_below w o
theorem fault_any (kd : Nat) (n fr rd : Int) (N : Nat) (hN : N < S128) (ad : Option Addr) (cap : Nat) (l : List (Int × Int × Int)) (w : World) (h : RdN w ad l) (hl : l.length ≤ 6000000000000) : Calls Tryz.prog 272 #[fv kd fr rd N (.slice ad l.length cap), .int .i64 n] w fun e w' => e = .returned (.int .i64 (flt kd n fr rd N l)) ∧ Below w.heap.size w w' := by
 have hsz := isSize_any n
 have hro := hasRound_any kd
 have hir := isRound_any rd
 have hwi := within_any N hN n
 have hri := rising_any n ad cap l
 simp only [fv, fcs, sv] at *
 have hF0 : FB (w.alloc (.cells #[.int .i64 (kd : Int), .int .i64 fr, .int .i64 rd, .int .u32 (wd N 0 : Nat), .int .u32 (wd N 1 : Nat), .int .u32 (wd N 2 : Nat), .int .u32 (wd N 3 : Nat), .slice ad l.length cap] 329)) w.heap.size kd fr rd N (.slice ad l.length cap) := get_newQ rfl
 obtain ⟨W0, hW0⟩ : ∃ W0, w.alloc (.cells #[.int .i64 (kd : Int), .int .i64 fr, .int .i64 rd, .int .u32 (wd N 0 : Nat), .int .u32 (wd N 1 : Nat), .int .u32 (wd N 2 : Nat), .int .u32 (wd N 3 : Nat), .slice ad l.length cap] 329) = W0 := ⟨_, rfl⟩
 have hbW : Below w.heap.size w W0 := hW0 ▸ al1' w _
 rw [hW0] at hF0
 by_cases h1 : 1 ≤ n ∧ n ≤ 100
 case neg =>
   rw [show flt kd n fr rd N l = 1 from if_pos h1]
   rw [decide_eq_false h1] at hsz
   go_enter Tryz.func272, Tryz.ntmps272
   go_wp2_with (go_at_call 278; (with_reducible refine (hsz _).mono ?_); rintro e u1 ⟨rfl, rfl⟩)
   go_ret
   exact ⟨rfl, hbW⟩
 have e1 : flt kd n fr rd N l = if fr < 0 ∨ n ≤ fr then 72 else if kd ≠ 3 ∧ ¬ (1 ≤ rd ∧ rd ≤ 1099511627775) then 73 else if wthB N n = false then 74 else if ris n (-1) l = false then 75 else 0 := if_neg (fun q => q h1)
 rw [decide_eq_true h1] at hsz
 rw [e1]
 clear e1
 obtain ⟨c0, c1, c2, c3, c4, c5, c6, c7⟩ := hF0.cells
 by_cases h2 : fr < 0
 · rw [if_pos (.inl h2)]
   go_enter Tryz.func272, Tryz.ntmps272
   go_wp2_with (go_at_call 278; (with_reducible refine (hsz _).mono ?_); rintro e u1 ⟨rfl, rfl⟩)
   go_ret
   exact ⟨rfl, hbW⟩
 by_cases h3 : n ≤ fr
 · rw [if_pos (.inr h3)]
   go_enter Tryz.func272, Tryz.ntmps272
   go_wp2_with (go_at_call 278; (with_reducible refine (hsz _).mono ?_); rintro e u1 ⟨rfl, rfl⟩)
   go_ret
   exact ⟨rfl, hbW⟩
 rw [if_neg (by omega)]
 by_cases h4 : kd ≠ 3 ∧ ¬ (1 ≤ rd ∧ rd ≤ 1099511627775)
 · rw [if_pos h4]
   rw [decide_eq_true h4.1] at hro
   rw [decide_eq_false h4.2] at hir
   go_enter Tryz.func272, Tryz.ntmps272
   go_wp2_with (first | (go_at_call 278; (with_reducible refine (hsz _).mono ?_); rintro e u1 ⟨rfl, rfl⟩) | (go_at_call 274; (with_reducible refine (hro _).mono ?_); rintro e u1 ⟨rfl, rfl⟩) | (go_at_call 279; (with_reducible refine (hir _).mono ?_); rintro e u1 ⟨rfl, rfl⟩))
   go_ret
   exact ⟨rfl, hbW⟩
 rw [if_neg h4]
 have hwi' : ∀ W, Below w.heap.size w W → FB W w.heap.size kd fr rd N (.slice ad l.length cap) → Calls Tryz.prog 159 #[.agg #[.int .u32 (wd N 0 : Nat), .int .u32 (wd N 1 : Nat), .int .u32 (wd N 2 : Nat), .int .u32 (wd N 3 : Nat)], .int .i64 n] W fun e w' => e = .returned (.bool (wthB N n)) ∧ Below w.heap.size w w' ∧ w'.cell? ⟨w.heap.size, 7, none⟩ = some (.slice ad l.length cap) ∧ RdN w' ad l := fun W hW hF => (hwi W).mono (by
   rintro e w' ⟨rfl, hb⟩
   exact ⟨rfl, bel2 hW hb, (hF.below hb hF.lt).cells.2.2.2.2.2.2.2, h.carry (bel2 hW hb)⟩)
 have hwi2 := hwi' W0 hbW hF0
 by_cases h5 : wthB N n = false
 · rw [if_pos h5]
   rw [h5] at hwi2
   by_cases hk : kd = 3
   · rw [decide_eq_false (fun q : kd ≠ 3 => q hk)] at hro
     clear h4 hk
     go_enter Tryz.func272, Tryz.ntmps272
     go_wp2_with (first | (go_at_call 278; (with_reducible refine (hsz _).mono ?_); rintro e u1 ⟨rfl, rfl⟩) | (go_at_call 274; (with_reducible refine (hro _).mono ?_); rintro e u1 ⟨rfl, rfl⟩) | (go_at_call 159; (with_reducible refine hwi2.mono ?_); rintro e u2 ⟨rfl, hb2, d7, hl2⟩))
     go_ret
     exact ⟨rfl, hb2⟩
   · have hir2 : 1 ≤ rd ∧ rd ≤ 1099511627775 := Classical.byContradiction fun q => h4 ⟨hk, q⟩
     rw [decide_eq_true hir2] at hir
     rw [decide_eq_true hk] at hro
     go_enter Tryz.func272, Tryz.ntmps272
     go_wp2_with (first | (go_at_call 278; (with_reducible refine (hsz _).mono ?_); rintro e u1 ⟨rfl, rfl⟩) | (go_at_call 274; (with_reducible refine (hro _).mono ?_); rintro e u1 ⟨rfl, rfl⟩) | (go_at_call 279; (with_reducible refine (hir _).mono ?_); rintro e u1 ⟨rfl, rfl⟩) | (go_at_call 159; (with_reducible refine hwi2.mono ?_); rintro e u2 ⟨rfl, hb2, d7, hl2⟩))
     go_ret
     exact ⟨rfl, hb2⟩
 have h5t : wthB N n = true := by simpa using h5
 rw [if_neg h5]
 rw [h5t] at hwi2
 obtain ⟨B, hB⟩ : ∃ B, ris n (-1) l = B := ⟨_, rfl⟩
 rw [hB] at hri
 rw [hB]
 clear hB hwi hwi'
 by_cases hk : kd = 3
 · rw [decide_eq_false (fun q : kd ≠ 3 => q hk)] at hro
   clear h4 hk
   cases B
   all_goals
     go_enter Tryz.func272, Tryz.ntmps272
     go_wp2_with (first | (go_at_call 278; (with_reducible refine (hsz _).mono ?_); rintro e u1 ⟨rfl, rfl⟩) | (go_at_call 274; (with_reducible refine (hro _).mono ?_); rintro e u1 ⟨rfl, rfl⟩) | (go_at_call 159; (with_reducible refine hwi2.mono ?_); rintro e u2 ⟨rfl, hb2, d7, hl2⟩) | (go_at_call 280; (with_reducible refine (hri _ hl2 hl).mono ?_); rintro e u3 ⟨rfl, hb3⟩))
     go_ret
     exact ⟨rfl, bel2 hb2 hb3⟩
 · have hir2 : 1 ≤ rd ∧ rd ≤ 1099511627775 := Classical.byContradiction fun q => h4 ⟨hk, q⟩
   rw [decide_eq_true hir2] at hir
   rw [decide_eq_true hk] at hro
   cases B
   all_goals
     go_enter Tryz.func272, Tryz.ntmps272
     go_wp2_with (first | (go_at_call 278; (with_reducible refine (hsz _).mono ?_); rintro e u1 ⟨rfl, rfl⟩) | (go_at_call 274; (with_reducible refine (hro _).mono ?_); rintro e u1 ⟨rfl, rfl⟩) | (go_at_call 279; (with_reducible refine (hir _).mono ?_); rintro e u1 ⟨rfl, rfl⟩) | (go_at_call 159; (with_reducible refine hwi2.mono ?_); rintro e u2 ⟨rfl, hb2, d7, hl2⟩) | (go_at_call 280; (with_reducible refine (hri _ hl2 hl).mono ?_); rintro e u3 ⟨rfl, hb3⟩))
     go_ret
     exact ⟨rfl, bel2 hb2 hb3⟩
theorem vl_bounds {n : Int} {o t k : Int} (h : vl n o t k = true) : 0 ≤ o ∧ o < n ∧ 0 ≤ t ∧ t ≤ 1048576 ∧ 1 ≤ k ∧ k ≤ 2 := by
 have h := of_decide_eq_true h
 have hr := h.2.2.2.2
 unfold rk at hr
 refine ⟨h.2.2.1, h.2.2.2.1, ?_⟩
 split at hr
 · exact absurd rfl hr
 split at hr
 · omega
 split at hr
 · omega
 · exact absurd rfl hr
theorem ris_len (n : Int) : ∀ (l : List (Int × Int × Int)) (a : Int), -1 ≤ a → a < n → ris n a l = true → (l.length : Int) ≤ n - 1 - a
 | [], a, _, h2, _ => by simp; omega
 | x :: l, a, h1, h2, h => by
  simp only [ris, Bool.and_eq_true, decide_eq_true_eq] at h
  have hv := vl_bounds h.1
  have := ris_len n l x.1 (by omega) hv.2.1 h.2.2
  simp only [List.length_cons]
  omega
theorem ris_get {n : Int} : ∀ {l : List (Int × Int × Int)} {a : Int} {k : Nat} {x : Int × Int × Int}, ris n a l = true → l[k]? = some x → vl n x.1 x.2.1 x.2.2 = true
 | [], a, k, x, _, hk => by simp at hk
 | y :: l, a, 0, x, h, hk => by
  simp only [ris, Bool.and_eq_true] at h
  simp at hk
  subst hk
  exact h.1
 | y :: l, a, k + 1, x, h, hk => by
  simp only [ris, Bool.and_eq_true] at h
  exact ris_get h.2.2 (by simpa using hk)
theorem bytes_no (kd : Nat) (n fr rd : Int) (N : Nat) (hN : N < S128) (ad : Option Addr) (cap : Nat) (l : List (Int × Int × Int)) (w : World) (h : RdN w ad l) (hl : l.length ≤ 6000000000000) (hf : ¬ flt kd n fr rd N l = 0) : Calls Tryz.prog 270 #[fv kd fr rd N (.slice ad l.length cap), .int .i64 n] w fun e w' => e = .returned (.tuple #[.slice none 0 0, .int .i64 (flt kd n fr rd N l)]) ∧ Below w.heap.size w w' := by
 have hF0 : FB (w.alloc (.cells (fcs kd fr rd N (.slice ad l.length cap)) 329)) w.heap.size kd fr rd N (.slice ad l.length cap) := get_newQ rfl
 have hbW := al1' w (.cells (fcs kd fr rd N (.slice ad l.length cap)) 329)
 have hfa := fault_any kd n fr rd N hN ad cap l _ (h.carry hbW) hl
 obtain ⟨c0, c1, c2, c3, c4, c5, c6, c7⟩ := hF0.cells
 generalize flt kd n fr rd N l = F at *
 simp only [fv, fcs] at *
 go_enter Tryz.func270, Tryz.ntmps270
 go_wp2_with (go_at_call 272; (with_reducible refine hfa.mono ?_); rintro e u1 ⟨rfl, hb1⟩)
 go_ret2
 exact ⟨rfl, bel2 hbW hb1⟩
theorem newsB_step (l : List (Int × Int × Int)) (k : Nat) (o t q : Int) (h : l[k]? = some (o, t, q)) : newsB (l.take (k + 1)) = newsB (l.take k) ++ [o.toNat % 256, q.toNat % 256] ++ numB t.toNat 3 := by
 rw [List.take_add_one, h, Option.toList_some, newsB_app]
 simp [newsB]
theorem rowN_at (W : World) (cs : Array Value) (t : TypeId) {b : Nat} (h : b = W.heap.size) : ∀ j u, cs.toList[j]? = some u → (W.alloc (.cells cs t)).cell? ((⟨b, 0, none⟩ : Addr).add j) = some u := by
 subst h
 exact rowN W cs t
structure ST (w : World) (kd fr : Nat) (rd : Int) (N : Nat) (v b : Value) (C : List Nat) (u : World) : Prop where
 fb : FB u w.heap.size kd fr rd N v
 be : Below w.heap.size w u
 sz : w.heap.size + 1 ≤ u.heap.size
 ow : OwB u (w.heap.size + 1) b C
 ln : C.length ≤ 600
theorem ST.step {w : World} {kd fr : Nat} {rd : Int} {N : Nat} {v b : Value} {C : List Nat} {u u' : World} {b' : Value} {C' : List Nat} (h : ST w kd fr rd N v b C u) (hb : Below (w.heap.size + 1) u u') (ho : OwB u' (w.heap.size + 1) b' C') (hl : C'.length ≤ 600) : ST w kd fr rd N v b' C' u' :=
 ⟨h.fb.below hb (Nat.lt_succ_self _), h.be.trans (hb.mono (Nat.le_succ _)), Nat.le_trans h.sz hb.size, ho, hl⟩
theorem ST.app {w : World} {kd fr : Nat} {rd : Int} {N : Nat} {v b : Value} {C : List Nat} {u u' : World} {b' : Value} {o : Obj} (xs : List Nat) (h : ST w kd fr rd N v b C u) (hg : (u.alloc o).grownBy u' b.ownBlock) (ho : u'.ownsRow (w.heap.size + 1) 5 1 b' (C.length + xs.length) (cB C ++ cB xs)) (hl : (C ++ xs).length ≤ 600) : ST w kd fr rd N v b' (C ++ xs) u' := by
 refine h.step (((Below.refl _ u).alloc h.sz o).grown hg (by simp; have := h.sz; omega) (fun k e => own_block h.ow k e)) ?_ hl
 unfold OwB
 rw [cB_app, List.length_append]
 exact ho
theorem bytes_ok (kd n fr : Nat) (rd : Int) (N : Nat) (hN : N < S128) (ad : Option Addr) (cap : Nat) (l : List (Int × Int × Int)) (w : World) (h : RdN w ad l) (hf : flt kd n fr rd N l = 0) : Calls Tryz.prog 270 #[fv kd fr rd N (.slice ad l.length cap), .int .i64 (n : Int)] w fun e w' => ∃ b, e = .returned (.tuple #[b, .int .i64 0]) ∧ OwB w' w.heap.size b (byt7 kd n fr rd.toNat N l) ∧ Below w.heap.size w w' := by
 obtain ⟨hn, hfr, hrd, hwt, hri⟩ := flt_0 hf
 have hlen := ris_len n l (-1) (by omega) (by omega) hri
 have hF0 : FB (w.alloc (.cells (fcs kd fr rd N (.slice ad l.length cap)) 329)) w.heap.size kd fr rd N (.slice ad l.length cap) := get_newQ rfl
 have hbW := al1' w (.cells (fcs kd fr rd N (.slice ad l.length cap)) 329)
 have hfa := fault_any kd n fr rd N hN ad cap l _ (h.carry hbW) (by omega)
 rw [hf] at hfa
 clear hf
 obtain ⟨ic, hic, hz0, hz1, hz2⟩ := info_partsB
 obtain ⟨c0, c1, c2, c3, c4, c5, c6, c7⟩ := hF0.cells
 have hl100 : l.length ≤ 100 := by omega
 obtain ⟨K8, hK8⟩ : ∃ x, kd % 256 = x := ⟨_, rfl⟩
 have iK8 : (kd : Int) % 256 = (K8 : Int) := by omega
 have iN8 : (n : Int) % 256 = (n : Int) := by omega
 have iF8 : (fr : Int) % 256 = (fr : Int) := by omega
 have iL8 : (l.length : Int) % 256 = (l.length : Int) := by omega
 have hB1 := bs1
 have hB2 := bs2
 have hB3 := bs3
 have hro := hasRound_any kd
 have hhe := hasHeard_any kd
 have hads := addSet_any (w.heap.size + 1)
 simp only [sv] at hads
 have ha0 : ∀ u : World, w.heap.size + 1 ≤ u.heap.size → Calls Tryz.prog 273 #[.slice none 0 0, .int .i64 25971, .int .i64 2] u fun e w' => ∃ b', e = .returned b' ∧ OwB w' (w.heap.size + 1) b' [101, 115] ∧ Below (w.heap.size + 1) u w' := fun u hu => addNumber_any (w.heap.size + 1) (.slice none 0 0) [] 25971 2 u hu (owB_nil _ _) (by simp) (by omega)
 obtain ⟨P, HPl, HP⟩ : ∃ P : List Nat, P.length ≤ 30 ∧ Hid (frm kd n fr rd.toNat N l = P ++ newsB l ∧ P = [101, 115, K8, n, fr] ++ (rndB kd rd.toNat ++ (setB kd n N ++ [l.length]))) := by
   refine ⟨[101, 115, K8, n, fr] ++ (rndB kd rd.toNat ++ (setB kd n N ++ [l.length])), ?_, ?_, rfl⟩
   · have h1 := rndB_len kd rd.toNat
     have h2 := setB_len kd n N
     have h3 := hsz_le (n := n) (by omega)
     simp only [List.length_append, List.length_cons, List.length_nil]
     omega
   · rw [frm, hK8, Nat.mod_eq_of_lt (show n < 256 by omega), Nat.mod_eq_of_lt (show fr < 256 by omega), Nat.mod_eq_of_lt (show l.length < 256 by omega)]
     simp
 have HL : Hid (RdN w ad l) := h
 have HRI : Hid (ris n (-1) l = true) := hri
 have hnN : n ≤ 100 := by omega
 clear h hwt hri hK8
 simp only [fv, fcs] at *
 rcases (show kd = 3 ∨ kd = 2 ∨ (kd ≠ 3 ∧ kd ≠ 2) by omega) with hk | hk | ⟨hk, hk'⟩
 · rw [decide_eq_false (fun q : kd ≠ 3 => q hk)] at hro
   rw [decide_eq_false (by omega : ¬ kd = 2)] at hhe
   have HQ : Hid (P = [101, 115] ++ [K8, n, fr] ++ [l.length]) := by
     have := HP.out.2
     rw [rndB, if_pos hk, setB, if_neg (by omega)] at this
     show P = _
     simpa using this
   clear hrd hk
   go_enter Tryz.func270, Tryz.ntmps270
   go_wp2_with (first | (go_at_call 272; (with_reducible refine hfa.mono ?_); rintro e u1 ⟨rfl, hb1⟩; have hS1 : ST w kd fr rd N (.slice ad l.length cap) (.slice none 0 0) [] u1 := ⟨hF0.below hb1 (by simp), bel2 hbW hb1, Nat.le_trans (by simp) hb1.size, owB_nil _ _, by simp⟩) | (go_at_call 273; (with_reducible refine (ha0 _ hS1.sz).mono ?_); rintro e u2 ⟨b2, rfl, ho2, hb2⟩; have hS2 : ST w kd fr rd N (.slice ad l.length cap) b2 [101, 115] u2 := hS1.step hb2 ho2 (by simp); obtain ⟨d0, d1, d2, d3, d4, d5, d6, d7⟩ := hS2.fb.cells) | (at_builtin; refine wpList_append_own_at _ rfl _ _ 116 rfl (w.heap.size + 1) 5 ic _ 1 1 Tryz.underlying116 hic hz0 hz1 hz2 rfl (by decide) _ ([101, 115]).length (cB ([101, 115])) rfl (World.ownsRow.alloc (OwB.out hS2.ow) _) ⟨u2.heap.size, 0, none⟩ 3 3 [_, _, _] rfl rfl (rowN _ #[_, _, _] _) (by simp [Value.oneCell']) (by have := hS2.ln; unfold maxLen; omega) (by have := hS2.ln; omega) (by have := hS2.sz; simp; omega) ?_; intro b' u3 hown' hgrow _ hob; have hS3 := ST.app [K8, n, fr] hS2 hgrow hown' (by simp); clear hown' hgrow hob; obtain ⟨d0, d1, d2, d3, d4, d5, d6, d7⟩ := hS3.fb.cells) | (go_at_call 274; (with_reducible refine (hro _).mono ?_); rintro e u ⟨rfl, hu⟩; rw [hu]; clear hu u) | (go_at_call 275; (with_reducible refine (hhe _).mono ?_); rintro e u ⟨rfl, hu⟩; rw [hu]; clear hu u) | (at_builtin; refine wpList_append_own_at _ rfl _ _ 116 rfl (w.heap.size + 1) 5 ic _ 1 1 Tryz.underlying116 hic hz0 hz1 hz2 rfl (by decide) _ ([101, 115] ++ [K8, n, fr]).length (cB ([101, 115] ++ [K8, n, fr])) rfl (World.ownsRow.alloc (OwB.out hS3.ow) _) ⟨u3.heap.size, 0, none⟩ 1 1 [_] rfl rfl (rowN _ #[_] _) (by simp [Value.oneCell']) (by have := hS3.ln; unfold maxLen; omega) (by have := hS3.ln; omega) (by have := hS3.sz; simp; omega) ?_; intro b' u6 hown' hgrow _ hob; have hS6 := ST.app [l.length] hS3 hgrow hown' (by simp); clear hown' hgrow hob; obtain ⟨d0, d1, d2, d3, d4, d5, d6, d7⟩ := hS6.fb.cells))
   have hS7 : ST w kd fr rd N (.slice ad l.length cap) b' P u6 := HQ.out ▸ hS6
   clear hS6 hS3 hS2 hS1 HQ
   have hB2' := bs2
   go_loopw [7, 53] (fun b i wz => ∃ (k : Nat), i = .int .i64 k ∧ k ≤ l.length ∧ ST w kd fr rd N (.slice ad l.length cap) b (P ++ newsB (l.take k)) wz) (fun _ i _ => l.length - vnatW i)
   case atStart => exact ⟨0, rfl, Nat.zero_le _, by simpa [newsB] using hS7⟩
   case round =>
     obtain ⟨k, rfl, hk, hS⟩ := hrel
     clear hS7 d0 d1 d2 d3 d4 d5 d6 d7 hfa c0 c1 c2 c3 c4 c5 c6 c7 hF0 hbW hro hhe hads
     have hsw := hS.sz
     by_cases hkl : k < l.length
     · have hki : (k : Int) < (l.length : Int) := by omega
       obtain ⟨⟨o, t, q⟩, hx⟩ : ∃ x, l[k]? = some x := ⟨_, List.getElem?_eq_getElem hkl⟩
       obtain ⟨v1, v2, v3, v4, v5, v6⟩ := vl_bounds (ris_get HRI.out hx)
       dsimp only at v1 v2 v3 v4 v5 v6
       obtain ⟨o, rfl⟩ := Int.eq_ofNat_of_zero_le v1
       obtain ⟨t, rfl⟩ := Int.eq_ofNat_of_zero_le v3
       obtain ⟨q, rfl⟩ := Int.eq_ofNat_of_zero_le (show 0 ≤ q by omega)
       obtain ⟨g, off, rfl, hgl, hat⟩ := HL.out (fun e => by subst e; simp at hkl)
       obtain ⟨x0, x1, x2⟩ := hat k _ hx
       have y0 := (hS.be.cell (p := ⟨g, off + k * 3, none⟩) hgl).trans x0
       have y1 := (hS.be.cell (p := ⟨g, off + k * 3 + 1, none⟩) hgl).trans x1
       have y2 := (hS.be.cell (p := ⟨g, off + k * 3 + 2, none⟩) hgl).trans x2
       dsimp only at y0 y1 y2
       have io8 : (o : Int) % 256 = (o : Int) := by omega
       have iq8 : (q : Int) % 256 = (q : Int) := by omega
       have HX : Hid (newsB (l.take (k + 1)) = newsB (l.take k) ++ [o, q] ++ numB t 3) := by
        have := newsB_step l k _ _ _ hx
        rw [Int.toNat_natCast, Int.toNat_natCast, Int.toNat_natCast, Nat.mod_eq_of_lt (show o < 256 by omega), Nat.mod_eq_of_lt (show q < 256 by omega)] at this
        exact this
       have hlk : (newsB (l.take k)).length ≤ 5 * k := by rw [newsB_len, List.length_take]; omega
       have hbx : NB (wr.alloc (.cells #[.int .i64 (o : Int), .int .i64 (t : Int), .int .i64 (q : Int)] 124)) wr.heap.size o t q := NB.new wr o t q
       obtain ⟨n0, n1, n2⟩ : _ ∧ _ ∧ _ := ⟨hbx.c0, hbx.c1, hbx.c2⟩
       have hSb := hS.step ((Below.refl _ wr).alloc hsw (.cells #[.int .i64 (o : Int), .int .i64 (t : Int), .int .i64 (q : Int)] 124)) (hS.ow.below (alloc_below _ _)) hS.ln
       have hne := own_lt hS.ow.out
       clear x0 x1 x2 hat hx v1 v2 v3 v4 v5 v6
       go_wp2_with (first | (at_builtin; refine wpList_append_own_at _ rfl _ _ 116 rfl (w.heap.size + 1) 5 ic _ 1 1 Tryz.underlying116 hic hz0 hz1 hz2 rfl (by decide) _ (P ++ newsB (l.take k)).length (cB (P ++ newsB (l.take k))) rfl (World.ownsRow.alloc (OwB.out hSb.ow) _) ⟨wr.heap.size + 1, 0, none⟩ 2 2 [_, _] rfl rfl (rowN_at _ #[_, _] _ (by simp)) (by simp [Value.oneCell']) (by have := hSb.ln; unfold maxLen; omega) (by have := hSb.ln; omega) (by have := hSb.sz; simp; omega) ?_; intro b' u2 hown' hgrow _ hob; have hS2 := ST.app [o, q] hSb hgrow hown' (by simp; omega); have hbx2 : NB u2 wr.heap.size o t q := (hgrow.block _ (by simp; omega) (fun e => Nat.lt_irrefl _ (hne _ e.symm))).trans (zoa hbx); have m1 := hbx2.c1; clear hown' hgrow hob) | (go_at_call 273; refine (addNumber_any (w.heap.size + 1) _ _ t 3 _ hS2.sz hS2.ow (by have := hS2.ln; omega) (by omega)).mono ?_; rintro e u3 ⟨b3, rfl, ho3, hb3⟩; have hS3 := hS2.step hb3 ho3 (by simp [numB_len]; omega)))
       go_roundw
       case rel => exact ⟨k + 1, by simp, by omega, by rw [HX.out, ← List.append_assoc, ← List.append_assoc]; exact hS3⟩
       case measure => simp [vnatW]; omega
     · have hkk : k = l.length := by omega
       subst hkk
       rw [List.take_length, ← HP.out.1] at hS
       have hki : ¬ ((l.length : Int) < (l.length : Int)) := by omega
       obtain ⟨ad2, cap2, rfl, hrb⟩ := RdB.own hS.ow.out
       have hsum := sum_any ad2 cap2 (frm kd n fr rd.toNat N l) wr hrb (frm_byt _ _ _ _ _ _) (by have := hS.ln; omega)
       have hadd := addNumber_any (w.heap.size + 1) _ _ (sumV (frm kd n fr rd.toNat N l)) 4 wr hS.sz hS.ow (by have := hS.ln; omega) (by omega)
       have HB : Hid (byt7 kd n fr rd.toNat N l = frm kd n fr rd.toNat N l ++ numB (sumV (frm kd n fr rd.toNat N l)) 4) := rfl
       generalize sumV (frm kd n fr rd.toNat N l) = SV at *
       generalize frm kd n fr rd.toNat N l = FM at *
       have hbe := hS.be
       clear hS hrb HP
       go_wp2_with (first | (go_at_call 277; refine hsum.mono ?_; rintro e u ⟨rfl, hu⟩; rw [hu]; clear hu u) | (go_at_call 273; refine hadd.mono ?_; rintro e u3 ⟨b3, rfl, ho3, hb3⟩))
       go_ret2
       exact ⟨_, rfl, by rw [HB.out]; exact ownsRow_baseQ ho3 (Nat.le_succ _), hbe.trans (hb3.mono (Nat.le_succ _))⟩
 · rw [decide_eq_true (by omega : kd ≠ 3)] at hro
   rw [decide_eq_true hk] at hhe
   have hr0 : 0 ≤ rd := by omega
   have har : ∀ (b : Value) (C : List Nat) (u : World), w.heap.size + 1 ≤ u.heap.size → OwB u (w.heap.size + 1) b C → C.length ≤ 100000 → Calls Tryz.prog 273 #[b, .int .i64 rd, .int .i64 5] u fun e w' => ∃ b', e = .returned b' ∧ OwB w' (w.heap.size + 1) b' (C ++ numB rd.toNat 5) ∧ Below (w.heap.size + 1) u w' := fun b C u hb ho hl => by
     have := addNumber_any (w.heap.size + 1) b C rd.toNat 5 u hb ho hl (by omega)
     rw [Int.toNat_of_nonneg hr0] at this
     exact this
   have HQ : Hid (P = [101, 115] ++ [K8, n, fr] ++ numB rd.toNat 5 ++ stB N 0 (hsz n) ++ [l.length]) := by
     have := HP.out.2
     rw [rndB, if_neg (by omega), setB, if_pos hk] at this
     show P = _
     simpa using this
   clear hrd hk hr0
   go_enter Tryz.func270, Tryz.ntmps270
   go_wp2_with (first | (go_at_call 272; (with_reducible refine hfa.mono ?_); rintro e u1 ⟨rfl, hb1⟩; have hS1 : ST w kd fr rd N (.slice ad l.length cap) (.slice none 0 0) [] u1 := ⟨hF0.below hb1 (by simp), bel2 hbW hb1, Nat.le_trans (by simp) hb1.size, owB_nil _ _, by simp⟩) | (go_at_call 273; (with_reducible refine (ha0 _ hS1.sz).mono ?_); rintro e u2 ⟨b2, rfl, ho2, hb2⟩; have hS2 : ST w kd fr rd N (.slice ad l.length cap) b2 [101, 115] u2 := hS1.step hb2 ho2 (by simp); obtain ⟨d0, d1, d2, d3, d4, d5, d6, d7⟩ := hS2.fb.cells) | (at_builtin; refine wpList_append_own_at _ rfl _ _ 116 rfl (w.heap.size + 1) 5 ic _ 1 1 Tryz.underlying116 hic hz0 hz1 hz2 rfl (by decide) _ ([101, 115]).length (cB ([101, 115])) rfl (World.ownsRow.alloc (OwB.out hS2.ow) _) ⟨u2.heap.size, 0, none⟩ 3 3 [_, _, _] rfl rfl (rowN _ #[_, _, _] _) (by simp [Value.oneCell']) (by have := hS2.ln; unfold maxLen; omega) (by have := hS2.ln; omega) (by have := hS2.sz; simp; omega) ?_; intro b' u3 hown' hgrow _ hob; have hS3 := ST.app [K8, n, fr] hS2 hgrow hown' (by simp); clear hown' hgrow hob; obtain ⟨d0, d1, d2, d3, d4, d5, d6, d7⟩ := hS3.fb.cells) | (go_at_call 274; (with_reducible refine (hro _).mono ?_); rintro e u ⟨rfl, hu⟩; rw [hu]; clear hu u) | (go_at_call 275; (with_reducible refine (hhe _).mono ?_); rintro e u ⟨rfl, hu⟩; rw [hu]; clear hu u) | (go_at_call 273; (with_reducible refine (har _ ([101, 115] ++ [K8, n, fr]) _ hS3.sz hS3.ow (by simp)).mono ?_); rintro e u4 ⟨b4, rfl, ho4, hb4⟩; have hS4 : ST w kd fr rd N (.slice ad l.length cap) b4 ([101, 115] ++ [K8, n, fr] ++ numB rd.toNat 5) u4 := hS3.step hb4 ho4 (by simp [numB_len]); obtain ⟨d0, d1, d2, d3, d4, d5, d6, d7⟩ := hS4.fb.cells) | (go_at_call 276; (with_reducible refine (hads _ ([101, 115] ++ [K8, n, fr] ++ numB rd.toNat 5) N n _ hS4.sz hS4.ow (by simp [numB_len]) hnN).mono ?_); rintro e u5 ⟨b5, rfl, ho5, hb5⟩; have hS5 : ST w kd fr rd N (.slice ad l.length cap) b5 ([101, 115] ++ [K8, n, fr] ++ numB rd.toNat 5 ++ stB N 0 (hsz n)) u5 := hS4.step hb5 ho5 (by have := hsz_le hnN; simp [numB_len, stB_len]; omega); obtain ⟨d0, d1, d2, d3, d4, d5, d6, d7⟩ := hS5.fb.cells) | (at_builtin; refine wpList_append_own_at _ rfl _ _ 116 rfl (w.heap.size + 1) 5 ic _ 1 1 Tryz.underlying116 hic hz0 hz1 hz2 rfl (by decide) _ ([101, 115] ++ [K8, n, fr] ++ numB rd.toNat 5 ++ stB N 0 (hsz n)).length (cB ([101, 115] ++ [K8, n, fr] ++ numB rd.toNat 5 ++ stB N 0 (hsz n))) rfl (World.ownsRow.alloc (OwB.out hS5.ow) _) ⟨u5.heap.size, 0, none⟩ 1 1 [_] rfl rfl (rowN _ #[_] _) (by simp [Value.oneCell']) (by have := hS5.ln; unfold maxLen; omega) (by have := hS5.ln; omega) (by have := hS5.sz; simp; omega) ?_; intro b' u6 hown' hgrow _ hob; have hS6 := ST.app [l.length] hS5 hgrow hown' (by have := hsz_le hnN; simp [numB_len, stB_len]; omega); clear hown' hgrow hob; obtain ⟨d0, d1, d2, d3, d4, d5, d6, d7⟩ := hS6.fb.cells))
   have hS7 : ST w kd fr rd N (.slice ad l.length cap) b' P u6 := HQ.out ▸ hS6
   clear hS6 hS3 hS4 hS5 hS2 hS1 HQ
   have hB2' := bs2
   go_loopw [7, 53] (fun b i wz => ∃ (k : Nat), i = .int .i64 k ∧ k ≤ l.length ∧ ST w kd fr rd N (.slice ad l.length cap) b (P ++ newsB (l.take k)) wz) (fun _ i _ => l.length - vnatW i)
   case atStart => exact ⟨0, rfl, Nat.zero_le _, by simpa [newsB] using hS7⟩
   case round =>
     obtain ⟨k, rfl, hk, hS⟩ := hrel
     clear hS7 d0 d1 d2 d3 d4 d5 d6 d7 hfa c0 c1 c2 c3 c4 c5 c6 c7 hF0 hbW hro hhe hads
     have hsw := hS.sz
     by_cases hkl : k < l.length
     · have hki : (k : Int) < (l.length : Int) := by omega
       obtain ⟨⟨o, t, q⟩, hx⟩ : ∃ x, l[k]? = some x := ⟨_, List.getElem?_eq_getElem hkl⟩
       obtain ⟨v1, v2, v3, v4, v5, v6⟩ := vl_bounds (ris_get HRI.out hx)
       dsimp only at v1 v2 v3 v4 v5 v6
       obtain ⟨o, rfl⟩ := Int.eq_ofNat_of_zero_le v1
       obtain ⟨t, rfl⟩ := Int.eq_ofNat_of_zero_le v3
       obtain ⟨q, rfl⟩ := Int.eq_ofNat_of_zero_le (show 0 ≤ q by omega)
       obtain ⟨g, off, rfl, hgl, hat⟩ := HL.out (fun e => by subst e; simp at hkl)
       obtain ⟨x0, x1, x2⟩ := hat k _ hx
       have y0 := (hS.be.cell (p := ⟨g, off + k * 3, none⟩) hgl).trans x0
       have y1 := (hS.be.cell (p := ⟨g, off + k * 3 + 1, none⟩) hgl).trans x1
       have y2 := (hS.be.cell (p := ⟨g, off + k * 3 + 2, none⟩) hgl).trans x2
       dsimp only at y0 y1 y2
       have io8 : (o : Int) % 256 = (o : Int) := by omega
       have iq8 : (q : Int) % 256 = (q : Int) := by omega
       have HX : Hid (newsB (l.take (k + 1)) = newsB (l.take k) ++ [o, q] ++ numB t 3) := by
        have := newsB_step l k _ _ _ hx
        rw [Int.toNat_natCast, Int.toNat_natCast, Int.toNat_natCast, Nat.mod_eq_of_lt (show o < 256 by omega), Nat.mod_eq_of_lt (show q < 256 by omega)] at this
        exact this
       have hlk : (newsB (l.take k)).length ≤ 5 * k := by rw [newsB_len, List.length_take]; omega
       have hbx : NB (wr.alloc (.cells #[.int .i64 (o : Int), .int .i64 (t : Int), .int .i64 (q : Int)] 124)) wr.heap.size o t q := NB.new wr o t q
       obtain ⟨n0, n1, n2⟩ : _ ∧ _ ∧ _ := ⟨hbx.c0, hbx.c1, hbx.c2⟩
       have hSb := hS.step ((Below.refl _ wr).alloc hsw (.cells #[.int .i64 (o : Int), .int .i64 (t : Int), .int .i64 (q : Int)] 124)) (hS.ow.below (alloc_below _ _)) hS.ln
       have hne := own_lt hS.ow.out
       clear x0 x1 x2 hat hx v1 v2 v3 v4 v5 v6
       go_wp2_with (first | (at_builtin; refine wpList_append_own_at _ rfl _ _ 116 rfl (w.heap.size + 1) 5 ic _ 1 1 Tryz.underlying116 hic hz0 hz1 hz2 rfl (by decide) _ (P ++ newsB (l.take k)).length (cB (P ++ newsB (l.take k))) rfl (World.ownsRow.alloc (OwB.out hSb.ow) _) ⟨wr.heap.size + 1, 0, none⟩ 2 2 [_, _] rfl rfl (rowN_at _ #[_, _] _ (by simp)) (by simp [Value.oneCell']) (by have := hSb.ln; unfold maxLen; omega) (by have := hSb.ln; omega) (by have := hSb.sz; simp; omega) ?_; intro b' u2 hown' hgrow _ hob; have hS2 := ST.app [o, q] hSb hgrow hown' (by simp; omega); have hbx2 : NB u2 wr.heap.size o t q := (hgrow.block _ (by simp; omega) (fun e => Nat.lt_irrefl _ (hne _ e.symm))).trans (zoa hbx); have m1 := hbx2.c1; clear hown' hgrow hob) | (go_at_call 273; refine (addNumber_any (w.heap.size + 1) _ _ t 3 _ hS2.sz hS2.ow (by have := hS2.ln; omega) (by omega)).mono ?_; rintro e u3 ⟨b3, rfl, ho3, hb3⟩; have hS3 := hS2.step hb3 ho3 (by simp [numB_len]; omega)))
       go_roundw
       case rel => exact ⟨k + 1, by simp, by omega, by rw [HX.out, ← List.append_assoc, ← List.append_assoc]; exact hS3⟩
       case measure => simp [vnatW]; omega
     · have hkk : k = l.length := by omega
       subst hkk
       rw [List.take_length, ← HP.out.1] at hS
       have hki : ¬ ((l.length : Int) < (l.length : Int)) := by omega
       obtain ⟨ad2, cap2, rfl, hrb⟩ := RdB.own hS.ow.out
       have hsum := sum_any ad2 cap2 (frm kd n fr rd.toNat N l) wr hrb (frm_byt _ _ _ _ _ _) (by have := hS.ln; omega)
       have hadd := addNumber_any (w.heap.size + 1) _ _ (sumV (frm kd n fr rd.toNat N l)) 4 wr hS.sz hS.ow (by have := hS.ln; omega) (by omega)
       have HB : Hid (byt7 kd n fr rd.toNat N l = frm kd n fr rd.toNat N l ++ numB (sumV (frm kd n fr rd.toNat N l)) 4) := rfl
       generalize sumV (frm kd n fr rd.toNat N l) = SV at *
       generalize frm kd n fr rd.toNat N l = FM at *
       have hbe := hS.be
       clear hS hrb HP
       go_wp2_with (first | (go_at_call 277; refine hsum.mono ?_; rintro e u ⟨rfl, hu⟩; rw [hu]; clear hu u) | (go_at_call 273; refine hadd.mono ?_; rintro e u3 ⟨b3, rfl, ho3, hb3⟩))
       go_ret2
       exact ⟨_, rfl, by rw [HB.out]; exact ownsRow_baseQ ho3 (Nat.le_succ _), hbe.trans (hb3.mono (Nat.le_succ _))⟩
 · rw [decide_eq_true hk] at hro
   rw [decide_eq_false hk'] at hhe
   have hr0 : 0 ≤ rd := by omega
   have har : ∀ (b : Value) (C : List Nat) (u : World), w.heap.size + 1 ≤ u.heap.size → OwB u (w.heap.size + 1) b C → C.length ≤ 100000 → Calls Tryz.prog 273 #[b, .int .i64 rd, .int .i64 5] u fun e w' => ∃ b', e = .returned b' ∧ OwB w' (w.heap.size + 1) b' (C ++ numB rd.toNat 5) ∧ Below (w.heap.size + 1) u w' := fun b C u hb ho hl => by
     have := addNumber_any (w.heap.size + 1) b C rd.toNat 5 u hb ho hl (by omega)
     rw [Int.toNat_of_nonneg hr0] at this
     exact this
   have HQ : Hid (P = [101, 115] ++ [K8, n, fr] ++ numB rd.toNat 5 ++ [l.length]) := by
     have := HP.out.2
     rw [rndB, if_neg hk, setB, if_neg hk'] at this
     show P = _
     simpa using this
   clear hrd hk hk' hr0
   go_enter Tryz.func270, Tryz.ntmps270
   go_wp2_with (first | (go_at_call 272; (with_reducible refine hfa.mono ?_); rintro e u1 ⟨rfl, hb1⟩; have hS1 : ST w kd fr rd N (.slice ad l.length cap) (.slice none 0 0) [] u1 := ⟨hF0.below hb1 (by simp), bel2 hbW hb1, Nat.le_trans (by simp) hb1.size, owB_nil _ _, by simp⟩) | (go_at_call 273; (with_reducible refine (ha0 _ hS1.sz).mono ?_); rintro e u2 ⟨b2, rfl, ho2, hb2⟩; have hS2 : ST w kd fr rd N (.slice ad l.length cap) b2 [101, 115] u2 := hS1.step hb2 ho2 (by simp); obtain ⟨d0, d1, d2, d3, d4, d5, d6, d7⟩ := hS2.fb.cells) | (at_builtin; refine wpList_append_own_at _ rfl _ _ 116 rfl (w.heap.size + 1) 5 ic _ 1 1 Tryz.underlying116 hic hz0 hz1 hz2 rfl (by decide) _ ([101, 115]).length (cB ([101, 115])) rfl (World.ownsRow.alloc (OwB.out hS2.ow) _) ⟨u2.heap.size, 0, none⟩ 3 3 [_, _, _] rfl rfl (rowN _ #[_, _, _] _) (by simp [Value.oneCell']) (by have := hS2.ln; unfold maxLen; omega) (by have := hS2.ln; omega) (by have := hS2.sz; simp; omega) ?_; intro b' u3 hown' hgrow _ hob; have hS3 := ST.app [K8, n, fr] hS2 hgrow hown' (by simp); clear hown' hgrow hob; obtain ⟨d0, d1, d2, d3, d4, d5, d6, d7⟩ := hS3.fb.cells) | (go_at_call 274; (with_reducible refine (hro _).mono ?_); rintro e u ⟨rfl, hu⟩; rw [hu]; clear hu u) | (go_at_call 275; (with_reducible refine (hhe _).mono ?_); rintro e u ⟨rfl, hu⟩; rw [hu]; clear hu u) | (go_at_call 273; (with_reducible refine (har _ ([101, 115] ++ [K8, n, fr]) _ hS3.sz hS3.ow (by simp)).mono ?_); rintro e u4 ⟨b4, rfl, ho4, hb4⟩; have hS4 : ST w kd fr rd N (.slice ad l.length cap) b4 ([101, 115] ++ [K8, n, fr] ++ numB rd.toNat 5) u4 := hS3.step hb4 ho4 (by simp [numB_len]); obtain ⟨d0, d1, d2, d3, d4, d5, d6, d7⟩ := hS4.fb.cells) | (at_builtin; refine wpList_append_own_at _ rfl _ _ 116 rfl (w.heap.size + 1) 5 ic _ 1 1 Tryz.underlying116 hic hz0 hz1 hz2 rfl (by decide) _ ([101, 115] ++ [K8, n, fr] ++ numB rd.toNat 5).length (cB ([101, 115] ++ [K8, n, fr] ++ numB rd.toNat 5)) rfl (World.ownsRow.alloc (OwB.out hS4.ow) _) ⟨u4.heap.size, 0, none⟩ 1 1 [_] rfl rfl (rowN _ #[_] _) (by simp [Value.oneCell']) (by have := hS4.ln; unfold maxLen; omega) (by have := hS4.ln; omega) (by have := hS4.sz; simp; omega) ?_; intro b' u6 hown' hgrow _ hob; have hS6 := ST.app [l.length] hS4 hgrow hown' (by simp [numB_len]); clear hown' hgrow hob; obtain ⟨d0, d1, d2, d3, d4, d5, d6, d7⟩ := hS6.fb.cells))
   have hS7 : ST w kd fr rd N (.slice ad l.length cap) b' P u6 := HQ.out ▸ hS6
   clear hS6 hS3 hS4 hS2 hS1 HQ
   have hB2' := bs2
   go_loopw [7, 53] (fun b i wz => ∃ (k : Nat), i = .int .i64 k ∧ k ≤ l.length ∧ ST w kd fr rd N (.slice ad l.length cap) b (P ++ newsB (l.take k)) wz) (fun _ i _ => l.length - vnatW i)
   case atStart => exact ⟨0, rfl, Nat.zero_le _, by simpa [newsB] using hS7⟩
   case round =>
     obtain ⟨k, rfl, hk, hS⟩ := hrel
     clear hS7 d0 d1 d2 d3 d4 d5 d6 d7 hfa c0 c1 c2 c3 c4 c5 c6 c7 hF0 hbW hro hhe hads
     have hsw := hS.sz
     by_cases hkl : k < l.length
     · have hki : (k : Int) < (l.length : Int) := by omega
       obtain ⟨⟨o, t, q⟩, hx⟩ : ∃ x, l[k]? = some x := ⟨_, List.getElem?_eq_getElem hkl⟩
       obtain ⟨v1, v2, v3, v4, v5, v6⟩ := vl_bounds (ris_get HRI.out hx)
       dsimp only at v1 v2 v3 v4 v5 v6
       obtain ⟨o, rfl⟩ := Int.eq_ofNat_of_zero_le v1
       obtain ⟨t, rfl⟩ := Int.eq_ofNat_of_zero_le v3
       obtain ⟨q, rfl⟩ := Int.eq_ofNat_of_zero_le (show 0 ≤ q by omega)
       obtain ⟨g, off, rfl, hgl, hat⟩ := HL.out (fun e => by subst e; simp at hkl)
       obtain ⟨x0, x1, x2⟩ := hat k _ hx
       have y0 := (hS.be.cell (p := ⟨g, off + k * 3, none⟩) hgl).trans x0
       have y1 := (hS.be.cell (p := ⟨g, off + k * 3 + 1, none⟩) hgl).trans x1
       have y2 := (hS.be.cell (p := ⟨g, off + k * 3 + 2, none⟩) hgl).trans x2
       dsimp only at y0 y1 y2
       have io8 : (o : Int) % 256 = (o : Int) := by omega
       have iq8 : (q : Int) % 256 = (q : Int) := by omega
       have HX : Hid (newsB (l.take (k + 1)) = newsB (l.take k) ++ [o, q] ++ numB t 3) := by
        have := newsB_step l k _ _ _ hx
        rw [Int.toNat_natCast, Int.toNat_natCast, Int.toNat_natCast, Nat.mod_eq_of_lt (show o < 256 by omega), Nat.mod_eq_of_lt (show q < 256 by omega)] at this
        exact this
       have hlk : (newsB (l.take k)).length ≤ 5 * k := by rw [newsB_len, List.length_take]; omega
       have hbx : NB (wr.alloc (.cells #[.int .i64 (o : Int), .int .i64 (t : Int), .int .i64 (q : Int)] 124)) wr.heap.size o t q := NB.new wr o t q
       obtain ⟨n0, n1, n2⟩ : _ ∧ _ ∧ _ := ⟨hbx.c0, hbx.c1, hbx.c2⟩
       have hSb := hS.step ((Below.refl _ wr).alloc hsw (.cells #[.int .i64 (o : Int), .int .i64 (t : Int), .int .i64 (q : Int)] 124)) (hS.ow.below (alloc_below _ _)) hS.ln
       have hne := own_lt hS.ow.out
       clear x0 x1 x2 hat hx v1 v2 v3 v4 v5 v6
       go_wp2_with (first | (at_builtin; refine wpList_append_own_at _ rfl _ _ 116 rfl (w.heap.size + 1) 5 ic _ 1 1 Tryz.underlying116 hic hz0 hz1 hz2 rfl (by decide) _ (P ++ newsB (l.take k)).length (cB (P ++ newsB (l.take k))) rfl (World.ownsRow.alloc (OwB.out hSb.ow) _) ⟨wr.heap.size + 1, 0, none⟩ 2 2 [_, _] rfl rfl (rowN_at _ #[_, _] _ (by simp)) (by simp [Value.oneCell']) (by have := hSb.ln; unfold maxLen; omega) (by have := hSb.ln; omega) (by have := hSb.sz; simp; omega) ?_; intro b' u2 hown' hgrow _ hob; have hS2 := ST.app [o, q] hSb hgrow hown' (by simp; omega); have hbx2 : NB u2 wr.heap.size o t q := (hgrow.block _ (by simp; omega) (fun e => Nat.lt_irrefl _ (hne _ e.symm))).trans (zoa hbx); have m1 := hbx2.c1; clear hown' hgrow hob) | (go_at_call 273; refine (addNumber_any (w.heap.size + 1) _ _ t 3 _ hS2.sz hS2.ow (by have := hS2.ln; omega) (by omega)).mono ?_; rintro e u3 ⟨b3, rfl, ho3, hb3⟩; have hS3 := hS2.step hb3 ho3 (by simp [numB_len]; omega)))
       go_roundw
       case rel => exact ⟨k + 1, by simp, by omega, by rw [HX.out, ← List.append_assoc, ← List.append_assoc]; exact hS3⟩
       case measure => simp [vnatW]; omega
     · have hkk : k = l.length := by omega
       subst hkk
       rw [List.take_length, ← HP.out.1] at hS
       have hki : ¬ ((l.length : Int) < (l.length : Int)) := by omega
       obtain ⟨ad2, cap2, rfl, hrb⟩ := RdB.own hS.ow.out
       have hsum := sum_any ad2 cap2 (frm kd n fr rd.toNat N l) wr hrb (frm_byt _ _ _ _ _ _) (by have := hS.ln; omega)
       have hadd := addNumber_any (w.heap.size + 1) _ _ (sumV (frm kd n fr rd.toNat N l)) 4 wr hS.sz hS.ow (by have := hS.ln; omega) (by omega)
       have HB : Hid (byt7 kd n fr rd.toNat N l = frm kd n fr rd.toNat N l ++ numB (sumV (frm kd n fr rd.toNat N l)) 4) := rfl
       generalize sumV (frm kd n fr rd.toNat N l) = SV at *
       generalize frm kd n fr rd.toNat N l = FM at *
       have hbe := hS.be
       clear hS hrb HP
       go_wp2_with (first | (go_at_call 277; refine hsum.mono ?_; rintro e u ⟨rfl, hu⟩; rw [hu]; clear hu u) | (go_at_call 273; refine hadd.mono ?_; rintro e u3 ⟨b3, rfl, ho3, hb3⟩))
       go_ret2
       exact ⟨_, rfl, by rw [HB.out]; exact ownsRow_baseQ ho3 (Nat.le_succ _), hbe.trans (hb3.mono (Nat.le_succ _))⟩
def fb7 (kd : Nat) (n fr rd : Int) (N : Nat) (l : List (Int × Int × Int)) : List Nat := if flt kd n fr rd N l = 0 then byt7 kd n.toNat fr.toNat rd.toNat N l else []
def BO (kd : Nat) (n fr rd : Int) (N : Nat) (l : List (Int × Int × Int)) (w : World) (e : Ending) (w' : World) : Prop := ∃ b, e = .returned (.tuple #[b, .int .i64 (flt kd n fr rd N l)]) ∧ OwB w' w.heap.size b (fb7 kd n fr rd N l) ∧ Below w.heap.size w w'
theorem bytes_any (kd : Nat) (n fr rd : Int) (N : Nat) (hN : N < S128) (ad : Option Addr) (cap : Nat) (l : List (Int × Int × Int)) (w : World) (h : RdN w ad l) (hl : l.length ≤ 6000000000000) : Calls Tryz.prog 270 #[fv kd fr rd N (.slice ad l.length cap), .int .i64 n] w (BO kd n fr rd N l w) := by
 by_cases hf : flt kd n fr rd N l = 0
 · obtain ⟨hn, hfr, _⟩ := flt_0 hf
   obtain ⟨n, rfl⟩ := Int.eq_ofNat_of_zero_le (show 0 ≤ n by omega)
   obtain ⟨fr, rfl⟩ := Int.eq_ofNat_of_zero_le hfr.1
   refine (bytes_ok kd n fr rd N hN ad cap l w h hf).mono ?_
   rintro e w' ⟨b, rfl, h1, h2⟩
   refine ⟨b, by rw [hf], ?_, h2⟩
   rw [fb7, if_pos hf]
   exact h1
 · refine (bytes_no kd n fr rd N hN ad cap l w h hl hf).mono ?_
   rintro e w' ⟨rfl, h1⟩
   refine ⟨_, rfl, ?_, h1⟩
   rw [fb7, if_neg hf]
   exact owB_nil _ _
theorem wd_z (j : Nat) : wd 0 j = 0 := by simp [wd]
theorem s128_0 : 0 < S128 := by decide
theorem qb_own {w W w' : World} {kd : Nat} {n fr rd : Int} {N : Nat} {l : List (Int × Int × Int)} {e : Ending} (h : BO kd n fr rd N l W e w') (hb : Below w.heap.size w W) : BO kd n fr rd N l w e w' := by
 obtain ⟨b, h1, h2, h3⟩ := h
 exact ⟨b, h1, ownsRow_baseQ h2 hb.size, bel2 hb h3⟩
theorem qbytes_any (n fr rd : Int) (ad : Option Addr) (cap : Nat) (l : List (Int × Int × Int)) (w : World) (h : RdN w ad l) (hl : l.length ≤ 6000000000000) : Calls Tryz.prog 282 #[.agg #[.int .i64 fr, .int .i64 rd, .slice ad l.length cap], .int .i64 n] w (BO 1 n fr rd 0 l w) := by
 have hb0 := al1' w (.cells #[.int .i64 fr, .int .i64 rd, .slice ad l.length cap] 92)
 have hby := bytes_any 1 n fr rd 0 s128_0 ad cap l _ (h.carry hb0) hl
 have hby2 := hby.mono (fun e w' q => qb_own q hb0)
 simp only [fv, fcs, wd_z] at hby2
 clear hby
 go_enter Tryz.func282, Tryz.ntmps282
 go_wp2_with (go_at_call 270; refine hby2.mono ?_; rintro e w' ⟨b, rfl, h2, h3⟩)
 go_ret2
 exact ⟨b, rfl, h2, h3⟩
theorem pbytes_any (n fr rd : Int) (N : Nat) (hN : N < S128) (ad : Option Addr) (cap : Nat) (l : List (Int × Int × Int)) (w : World) (h : RdN w ad l) (hl : l.length ≤ 6000000000000) : Calls Tryz.prog 287 #[.agg #[.int .i64 fr, .int .i64 rd, .int .u32 (wd N 0 : Nat), .int .u32 (wd N 1 : Nat), .int .u32 (wd N 2 : Nat), .int .u32 (wd N 3 : Nat), .slice ad l.length cap], .int .i64 n] w (BO 2 n fr rd N l w) := by
 have hb0 := al1' w (.cells #[.int .i64 fr, .int .i64 rd, .int .u32 (wd N 0 : Nat), .int .u32 (wd N 1 : Nat), .int .u32 (wd N 2 : Nat), .int .u32 (wd N 3 : Nat), .slice ad l.length cap] 95)
 have hby := bytes_any 2 n fr rd N hN ad cap l _ (h.carry hb0) hl
 have hby2 := hby.mono (fun e w' q => qb_own q hb0)
 simp only [fv, fcs] at hby2
 clear hby
 go_enter Tryz.func287, Tryz.ntmps287
 go_wp2_with (go_at_call 270; refine hby2.mono ?_; rintro e w' ⟨b, rfl, h2, h3⟩)
 go_ret2
 exact ⟨b, rfl, h2, h3⟩
theorem ubytes_any (n fr : Int) (ad : Option Addr) (cap : Nat) (l : List (Int × Int × Int)) (w : World) (h : RdN w ad l) (hl : l.length ≤ 6000000000000) : Calls Tryz.prog 265 #[.agg #[.int .i64 fr, .slice ad l.length cap], .int .i64 n] w (BO 3 n fr 0 0 l w) := by
 have hb0 := al1' w (.cells #[.int .i64 fr, .slice ad l.length cap] 90)
 have hby := bytes_any 3 n fr 0 0 s128_0 ad cap l _ (h.carry hb0) hl
 have hby2 := hby.mono (fun e w' q => qb_own q hb0)
 simp only [fv, fcs, wd_z] at hby2
 clear hby
 go_enter Tryz.func265, Tryz.ntmps265
 go_wp2_with (go_at_call 270; refine hby2.mono ?_; rintro e w' ⟨b, rfl, h2, h3⟩)
 go_ret2
 exact ⟨b, rfl, h2, h3⟩
end Go.Proofs.YtmahamdmapbilaaGreatDoor
namespace Go.Proofs.YtmahamdmapbilaaGreatDoor
open Go.RowKit Go.Shelf Go.Lib
attribute [local go_sem] Oper.semAt_some
theorem bs0N (W : World) : (Instr.buildSlice 37 0 #[]).run Tryz.prog W = .ok (.slice (some ⟨W.heap.size, 0, none⟩) 0 0) (W.alloc (.cells #[] 124)) := by go_simp
theorem nilN_no (a : Addr) (n c : Nat) (w : World) : (binOp .eql 37 (.slice (some a) n c) (.slice none 0 0)).run Tryz.prog w = .ok (.bool false) w := by kernel_rfl
theorem nilN_yes (n c : Nat) (w : World) : (binOp .eql 37 (.slice none n c) (.slice none 0 0)).run Tryz.prog w = .ok (.bool true) w := by kernel_rfl
theorem nclone_any (ad : Option Addr) (cap : Nat) (l : List (Int × Int × Int)) (w : World) (h : RdN w ad l) (hl : l.length ≤ 5000000000000) : Calls Tryz.prog 271 #[.slice ad l.length cap] w fun e w' => ∃ a c, e = .returned (.slice a l.length c) ∧ w'.ownsRow w.heap.size 124 3 (.slice a l.length c) l.length (fl l) ∧ Below w.heap.size w w' := by
 obtain ⟨ic, hic, hz0, hz1, hz2⟩ := info_partsN
 have hb := bs0N
 have n1 := nilN_no
 have n2 := nilN_yes
 cases ad with
 | none =>
  have hl0 : l = [] := Classical.byContradiction fun q => by obtain ⟨_, _, e, _⟩ := h q; cases e
  subst hl0
  go_enter Tryz.func271, Tryz.ntmps271
  go_wp2
  go_ret
  exact ⟨none, 0, rfl, World.ownsRow_nil _ _ _ _, Below.refl _ _⟩
 | some a =>
  have hb0 := al1' w (.cells #[] 124)
  have hnews : ∀ j u, (fl l)[j]? = some u → (w.alloc (.cells #[] 124)).cell? (a.add j) = some u := by
    intro j u hj
    obtain ⟨b, off, e, _, hat⟩ := (h.carry hb0) (fun e => by subst e; simp [fl_nil] at hj)
    obtain rfl := Option.some.inj e
    exact nts_src hat j u hj
  have hown := World.ownsRow_lit (base := w.heap.size) (e := 124) (size := 3) w #[] 0 (Nat.le_refl _) (by unfold maxLen; omega) (by simp)
  go_enter Tryz.func271, Tryz.ntmps271
  go_wp2_with (at_builtin; refine wpList_append_own_at _ rfl _ _ 37 rfl w.heap.size 124 ic _ 3 24 Tryz.underlying37 hic hz0 hz1 hz2 rfl (by decide) _ 0 [] rfl hown a l.length cap (fl l) rfl (fl_len l) hnews (fl_one l) (by unfold maxLen; omega) (by omega) (by simp) ?_; intro v u ho0 hgu hnn _; have hbu : Below w.heap.size w u := hb0.grown hgu (by simp) (fun q e => own_block hown q e); have ho : u.ownsRow w.heap.size 124 3 v l.length (fl l) := (by simpa using ho0))
  go_ret
  rcases own_form ho with ⟨e1, e2⟩ | ⟨g, c, e1, _⟩
  · exact ⟨none, 0, by rw [e1, e2]; rfl, by rw [e1, e2] at ho; rw [e2]; exact ho, hbu⟩
  · exact ⟨_, c, by rw [e1]; rfl, e1 ▸ ho, hbu⟩
theorem noticesQ_any (f r : Int) (ad : Option Addr) (cap : Nat) (l : List (Int × Int × Int)) (w : World) (h : RdN w ad l) (hl : l.length ≤ 5000000000000) : Calls Tryz.prog 284 #[.agg #[.int .i64 f, .int .i64 r, .slice ad l.length cap]] w fun e w' => ∃ a c, e = .returned (.slice a l.length c) ∧ w'.ownsRow w.heap.size 124 3 (.slice a l.length c) l.length (fl l) ∧ Below w.heap.size w w' := by
 have hb0 := al1' w (.cells #[.int .i64 f, .int .i64 r, .slice ad l.length cap] 92)
 have hcl := nclone_any ad cap l _ (h.carry hb0) hl
 go_enter Tryz.func284, Tryz.ntmps284
 go_wp2_with (go_at_call 271; (with_reducible refine hcl.mono ?_); rintro e u1 ⟨a, c, rfl, ho, hb1⟩)
 go_ret
 exact ⟨a, c, rfl, ownsRow_baseQ ho hb0.size, bel2 hb0 hb1⟩
theorem noticesP_any (f r x0 x1 x2 x3 : Int) (ad : Option Addr) (cap : Nat) (l : List (Int × Int × Int)) (w : World) (h : RdN w ad l) (hl : l.length ≤ 5000000000000) : Calls Tryz.prog 289 #[.agg #[.int .i64 f, .int .i64 r, .int .u32 x0, .int .u32 x1, .int .u32 x2, .int .u32 x3, .slice ad l.length cap]] w fun e w' => ∃ a c, e = .returned (.slice a l.length c) ∧ w'.ownsRow w.heap.size 124 3 (.slice a l.length c) l.length (fl l) ∧ Below w.heap.size w w' := by
 have hb0 := al1' w (.cells #[.int .i64 f, .int .i64 r, .int .u32 x0, .int .u32 x1, .int .u32 x2, .int .u32 x3, .slice ad l.length cap] 95)
 have hcl := nclone_any ad cap l _ (h.carry hb0) hl
 go_enter Tryz.func289, Tryz.ntmps289
 go_wp2_with (go_at_call 271; (with_reducible refine hcl.mono ?_); rintro e u1 ⟨a, c, rfl, ho, hb1⟩)
 go_ret
 exact ⟨a, c, rfl, ownsRow_baseQ ho hb0.size, bel2 hb0 hb1⟩
theorem noticesU_any (f : Int) (ad : Option Addr) (cap : Nat) (l : List (Int × Int × Int)) (w : World) (h : RdN w ad l) (hl : l.length ≤ 5000000000000) : Calls Tryz.prog 267 #[.agg #[.int .i64 f, .slice ad l.length cap]] w fun e w' => ∃ a c, e = .returned (.slice a l.length c) ∧ w'.ownsRow w.heap.size 124 3 (.slice a l.length c) l.length (fl l) ∧ Below w.heap.size w w' := by
 have hb0 := al1' w (.cells #[.int .i64 f, .slice ad l.length cap] 90)
 have hcl := nclone_any ad cap l _ (h.carry hb0) hl
 go_enter Tryz.func267, Tryz.ntmps267
 go_wp2_with (go_at_call 271; (with_reducible refine hcl.mono ?_); rintro e u1 ⟨a, c, rfl, ho, hb1⟩)
 go_ret
 exact ⟨a, c, rfl, ownsRow_baseQ ho hb0.size, bel2 hb0 hb1⟩
theorem senderQ_any (f r : Int) (a : Option Addr) (m c : Nat) (w : World) : Calls Tryz.prog 285 #[.agg #[.int .i64 f, .int .i64 r, .slice a m c]] w fun e w' => e = .returned (.int .i64 f) ∧ Below w.heap.size w w' := by
 go_enter Tryz.func285, Tryz.ntmps285
 go_wp2
 go_ret
 exact ⟨rfl, by first | exact Below.refl _ _ | exact al1' w _⟩
theorem senderP_any (f r x0 x1 x2 x3 : Int) (a : Option Addr) (m c : Nat) (w : World) : Calls Tryz.prog 290 #[.agg #[.int .i64 f, .int .i64 r, .int .u32 x0, .int .u32 x1, .int .u32 x2, .int .u32 x3, .slice a m c]] w fun e w' => e = .returned (.int .i64 f) ∧ Below w.heap.size w w' := by
 go_enter Tryz.func290, Tryz.ntmps290
 go_wp2
 go_ret
 exact ⟨rfl, by first | exact Below.refl _ _ | exact al1' w _⟩
theorem senderU_any (f : Int) (a : Option Addr) (m c : Nat) (w : World) : Calls Tryz.prog 268 #[.agg #[.int .i64 f, .slice a m c]] w fun e w' => e = .returned (.int .i64 f) ∧ Below w.heap.size w w' := by
 go_enter Tryz.func268, Tryz.ntmps268
 go_wp2
 go_ret
 exact ⟨rfl, by first | exact Below.refl _ _ | exact al1' w _⟩
section
variable {P : Program} {md : Region.Mode} {ops : Array Oper} {Q : Exit → Act → World → Prop} {X0 : Array Value} {val : Nat → Value} {J J' : World → Prop} {i : Nat} {o : Oper}
theorem step_mkf (hi : ops[i]? = some o) (hg : GOk md ops X0 val i o) (fn : Fn) (x : Operand) (v : Value) (ho : o.op = .makeFunc fn #[x] #[]) (hx : rdo md ops X0 val i o x = some v) (hr : ∀ w, (Instr.makeFunc fn #[v] #[]).run P w = .ok (.func fn #[v] #[]) w) (hv : val i = .func fn #[v] #[]) : StepAt P md ops Q X0 val J J i o :=
 step_of hi hg fun a w hJ hS => by
  unfold Oper.wp execOp
  simp [ho, hS.eval hx, Oper.upon_value, hv, hJ, hr]
theorem step_nilF (hi : ops[i]? = some o) (hg : GOk md ops X0 val i o) (x : Operand) (name : String) (T : TypeId) (u : Value) (ho : o.op = .nilCheck x) (hx : rdo md ops X0 val i o x = some (.func (Fn.method name) #[.iface T u] #[])) (hn : ∀ w, (nilAhead (P.types.size + Made.depth) T u name).run P w = .ok (some false) w) (hv : val i = .func (Fn.method name) #[.iface T u] #[]) : StepAt P md ops Q X0 val J J i o :=
 step_of hi hg fun a w hJ hS => by
  unfold Oper.wp execOp
  simp [ho, hS.eval hx, Oper.upon_value, hv, hJ, hn, Result.andThen]
end
theorem stepG_inv1 {G : Type} {P : Program} {md : Region.Mode} {ops : Array Oper} {Q : Exit → Act → World → Prop} {X0 : Array Value} {val : G → Nat → Value} {J : G → (Nat → Bool) → World → Prop} {i : Nat} {o : Oper}
  (hi : ops[i]? = some o) (hg : ∀ g, GOk md ops X0 (val g) i o) (f : FuncId) (x y : Operand) (ts : Array TypeId) (name : String) (r z : Value) (vs : List Value) (ho : o.op = .call { callee := .invoke x name, args := #[y], argTypes := ts })
  (hx : ∀ g, rdo md ops X0 (val g) i o x = some r) (hy : ∀ g, rdo md ops X0 (val g) i o y = some z) (hen : ∀ w, (callMethod r name #[z]).run P w = .ok (.enter f vs.toArray) w)
  (hc : ∀ g d w, J g d w → d i = false → (∀ j, bindsOn md o j = true → d j = true) → (∀ j oj, ops[j]? = some oj → d j = true → ∀ k, bindsOn md oj k = true → d k = true) → Calls P f vs.toArray w fun e w' => ∃ g', e = .returned (val g' i) ∧ (∀ j, d j = true → val g' j = val g j) ∧ J g' (fun j => if j = i then true else d j) w') : StepG P md ops Q X0 val J i o := by
 intro g d a w hJ hun hdep hcl hS
 unfold wpOp
 rw [hi]
 have hS' : Seen md ops X0 (val g) i o a := hS
 simp only [wanted_of hS' (hg g), if_true]
 refine .inl ?_
 unfold Oper.wp execOp
 have e2 : a.eval x = r := hS'.eval (hx g)
 have e5 : a.eval y = z := hS'.eval (hy g)
 have e3 : (#[r, z] : Array Value)[0]? = some r := rfl
 have e4 : (#[r, z] : Array Value).extract 1 (#[r, z] : Array Value).size = #[z] := rfl
 have e6 : (#[r] : Array Value) ++ #[z] = #[r, z] := rfl
 simp only [ho, resolve, e2, e5, Sem.run_bind, Sem.run_pure, Result.andThen_ok, invoke, List.map_toArray, List.map_cons, List.map_nil, e6, e3, e4, hen, Oper.upon_enter]
 refine (hc g d w hJ hun hdep hcl).mono ?_
 rintro e' w' ⟨g', rfl, h1, h2⟩
 exact ⟨g', h1, rfl, h2⟩
theorem stepG_invoke {G : Type} {P : Program} {md : Region.Mode} {ops : Array Oper} {Q : Exit → Act → World → Prop} {X0 : Array Value} {val : G → Nat → Value} {J : G → (Nat → Bool) → World → Prop} {i : Nat} {o : Oper}
  (hi : ops[i]? = some o) (hg : ∀ g, GOk md ops X0 (val g) i o) (f : FuncId) (x : Operand) (name : String) (r : Value) (vs : List Value) (ho : o.op = .call { callee := .invoke x name, args := #[], argTypes := #[] })
  (hx : ∀ g, rdo md ops X0 (val g) i o x = some r) (hen : ∀ w, (callMethod r name #[]).run P w = .ok (.enter f vs.toArray) w)
  (hc : ∀ g d w, J g d w → d i = false → (∀ j, bindsOn md o j = true → d j = true) → (∀ j oj, ops[j]? = some oj → d j = true → ∀ k, bindsOn md oj k = true → d k = true) → Calls P f vs.toArray w fun e w' => ∃ g', e = .returned (val g' i) ∧ (∀ j, d j = true → val g' j = val g j) ∧ J g' (fun j => if j = i then true else d j) w') : StepG P md ops Q X0 val J i o := by
 intro g d a w hJ hun hdep hcl hS
 unfold wpOp
 rw [hi]
 have hS' : Seen md ops X0 (val g) i o a := hS
 simp only [wanted_of hS' (hg g), if_true]
 refine .inl ?_
 unfold Oper.wp execOp
 have e2 : a.eval x = r := hS'.eval (hx g)
 have e3 : (#[r] : Array Value)[0]? = some r := rfl
 have e4 : (#[r] : Array Value).extract 1 (#[r] : Array Value).size = #[] := rfl
 simp only [ho, resolve, e2, Sem.run_bind, Sem.run_pure, Result.andThen_ok, invoke, List.map_toArray, List.map_nil, Array.append_empty, e3, e4, hen, Oper.upon_enter]
 refine (hc g d w hJ hun hdep hcl).mono ?_
 rintro e' w' ⟨g', rfl, h1, h2⟩
 exact ⟨g', h1, rfl, h2⟩
theorem cmQ_Bytes (v : Value) (n : Value) (w : World) : (callMethod (.iface 92 v) "Bytes" #[n]).run Tryz.prog w = .ok (.enter 282 #[v, n]) w := by kernel_rfl
theorem cmP_Bytes (v : Value) (n : Value) (w : World) : (callMethod (.iface 95 v) "Bytes" #[n]).run Tryz.prog w = .ok (.enter 287 #[v, n]) w := by kernel_rfl
theorem naQ (v : Value) (w : World) : (nilAhead (Tryz.prog.types.size + Made.depth) 92 v "Bytes").run Tryz.prog w = .ok (some false) w := by kernel_rfl
theorem naP (v : Value) (w : World) : (nilAhead (Tryz.prog.types.size + Made.depth) 95 v "Bytes").run Tryz.prog w = .ok (some false) w := by kernel_rfl
theorem cmU_Bytes (v : Value) (n : Value) (w : World) : (callMethod (.iface 90 v) "Bytes" #[n]).run Tryz.prog w = .ok (.enter 265 #[v, n]) w := by kernel_rfl
theorem naU (v : Value) (w : World) : (nilAhead (Tryz.prog.types.size + Made.depth) 90 v "Bytes").run Tryz.prog w = .ok (some false) w := by kernel_rfl
theorem cmQ_Sender (v : Value) (w : World) : (callMethod (.iface 92 v) "Sender" #[]).run Tryz.prog w = .ok (.enter 285 #[v]) w := by kernel_rfl
theorem cmQ_Notices (v : Value) (w : World) : (callMethod (.iface 92 v) "Notices" #[]).run Tryz.prog w = .ok (.enter 284 #[v]) w := by kernel_rfl
theorem cmP_Sender (v : Value) (w : World) : (callMethod (.iface 95 v) "Sender" #[]).run Tryz.prog w = .ok (.enter 290 #[v]) w := by kernel_rfl
theorem cmP_Notices (v : Value) (w : World) : (callMethod (.iface 95 v) "Notices" #[]).run Tryz.prog w = .ok (.enter 289 #[v]) w := by kernel_rfl
theorem cmU_Sender (v : Value) (w : World) : (callMethod (.iface 90 v) "Sender" #[]).run Tryz.prog w = .ok (.enter 268 #[v]) w := by kernel_rfl
theorem cmU_Notices (v : Value) (w : World) : (callMethod (.iface 90 v) "Notices" #[]).run Tryz.prog w = .ok (.enter 267 #[v]) w := by kernel_rfl
end Go.Proofs.YtmahamdmapbilaaGreatDoor
namespace Go.Proofs.YtmahamdmapbilaaGreatDoor
open Go.RowKit Go.Shelf Go.Lib
def strC (xs : List ByteArray) : List Value := xs.map .string
theorem txt_enc (c : Int) : Utf8.encode c = txt [c] := by
 apply ByteArray.ext
 apply Array.toList_inj.1
 rw [txt_data, wr_one]
theorem conv_rune (c : Int) (W : World) : (convert 21 9 (.int .i32 c)).run Tryz.prog W = .ok (.string (txt [c])) W := by
 rw [← txt_enc]
 generalize hE : Utf8.encode c = E
 go_simp
theorem bsS2 (W : World) (a b : ByteArray) : (Instr.buildSlice 58 2 #[(0, .string a), (1, .string b)]).run Tryz.prog W = .ok (.slice (some ⟨W.heap.size, 0, none⟩) 2 2) (W.alloc (.cells #[.string a, .string b] 9)) := by
 go_simp
theorem bsS1 (W : World) (a : ByteArray) : (Instr.buildSlice 58 1 #[(0, .string a)]).run Tryz.prog W = .ok (.slice (some ⟨W.heap.size, 0, none⟩) 1 1) (W.alloc (.cells #[.string a] 9)) := by
 go_simp
section
variable {G : Type} {P : Program} {md : Region.Mode} {ops : Array Oper} {Q : Exit → Act → World → Prop} {X0 : Array Value} {val : G → Nat → Value} {J : G → (Nat → Bool) → World → Prop} {i : Nat} {o : Oper}
theorem stepG_buildS (hi : ops[i]? = some o) (hg : o.guard = none) (t : TypeId) (x : Operand) (v : G → Value) (ho : o.op = .buildSlice t 1 #[(0, x)]) (hx : ∀ g, rdo md ops X0 (val g) i o x = some (v g))
  (h : ∀ g d w, J g d w → d i = false → (∀ j, bindsOn md o j = true → d j = true) → (∀ j oj, ops[j]? = some oj → d j = true → ∀ k, bindsOn md oj k = true → d k = true) → ∃ g' w', (Instr.buildSlice t 1 #[(0, v g)]).run P w = .ok (val g' i) w' ∧ (∀ j, d j = true → val g' j = val g j) ∧ J g' (fun j => if j = i then true else d j) w') : StepG P md ops Q X0 val J i o := by
 intro g d a w hJ hun hdep hcl hS
 have hS' : Seen md ops X0 (val g) i o a := hS
 obtain ⟨g', w', h1, h2, h3⟩ := h g d w hJ hun hdep hcl
 unfold wpOp
 rw [hi]
 simp only [Region.wanted, hg, if_true]
 refine .inl ?_
 unfold Oper.wp execOp
 simp only [ho, List.map_toArray, List.map_cons, List.map_nil, hS'.eval (hx g), Sem.run_bind, h1, Result.andThen_ok, Sem.run_pure, Oper.upon_value]
 exact ⟨g', h2, rfl, h3⟩
theorem stepG_appendS (hi : ops[i]? = some o) (hg : o.guard = none) (t : TypeId) (x y : Operand) (vx vy : G → Value) (ho : o.op = .call { callee := .builtin .append, args := #[x, y], argTypes := #[t, t] }) (hx : ∀ g, rdo md ops X0 (val g) i o x = some (vx g)) (hy : ∀ g, rdo md ops X0 (val g) i o y = some (vy g))
  (h : ∀ g d w, J g d w → d i = false → (∀ j, bindsOn md o j = true → d j = true) → (∀ j oj, ops[j]? = some oj → d j = true → ∀ k, bindsOn md oj k = true → d k = true) → ∃ g' w', (Builtin.append_ #[t, t] o.type #[vx g, vy g]).run P w = .ok (val g' i) w' ∧ (∀ j, d j = true → val g' j = val g j) ∧ J g' (fun j => if j = i then true else d j) w') : StepG P md ops Q X0 val J i o := by
 intro g d a w hJ hun hdep hcl hS
 have hS' : Seen md ops X0 (val g) i o a := hS
 obtain ⟨g', w', h1, h2, h3⟩ := h g d w hJ hun hdep hcl
 unfold wpOp
 rw [hi]
 simp only [Region.wanted, hg, if_true]
 refine .inl ?_
 unfold Oper.wp execOp
 simp only [ho, resolve, invoke, builtin, List.map_toArray, List.map_cons, List.map_nil, hS'.eval (hx g), hS'.eval (hy g), Sem.run_bind, h1, Result.andThen_ok, Sem.run_pure, Oper.upon_value]
 exact ⟨g', h2, rfl, h3⟩
end
structure JLn (w : World) (sl mp : Value) (V : World) : Prop where
 be : Below w.heap.size w V
 bx : V.heap[w.heap.size]? = some (.cells #[sl, mp] 25 (0, 0))
theorem JLn.carry {w V U : World} {sl mp : Value} (h : JLn w sl mp V) (hb : Below V.heap.size V U) : JLn w sl mp U := ⟨bel3 h.be hb, (hb.block _ (zla h.bx)).trans h.bx⟩
structure NtM (w : World) (T : TypeId) (X : Value) (FB FS FN : FuncId) (n : Int) (kd : Nat) (fr rd : Int) (N : Nat) (ns : List N3t) : Prop where
 cb : ∀ a w, (callMethod (.iface T X) "Bytes" #[a]).run Tryz.prog w = .ok (.enter FB #[X, a]) w
 na : ∀ w, (nilAhead (Tryz.prog.types.size + Made.depth) T X "Bytes").run Tryz.prog w = .ok (some false) w
 cs : ∀ w, (callMethod (.iface T X) "Sender" #[]).run Tryz.prog w = .ok (.enter FS #[X]) w
 cn : ∀ w, (callMethod (.iface T X) "Notices" #[]).run Tryz.prog w = .ok (.enter FN #[X]) w
 hb : ∀ V, Below w.heap.size w V → Calls Tryz.prog FB #[X, .int .i64 n] V (BO kd n fr rd N ns V)
 hs : ∀ V, Calls Tryz.prog FS #[X] V fun e w' => e = .returned (.int .i64 fr) ∧ Below V.heap.size V w'
 hn : ∀ V, Below w.heap.size w V → Calls Tryz.prog FN #[X] V fun e w' => ∃ a c, e = .returned (.slice a ns.length c) ∧ w'.ownsRow V.heap.size 124 3 (.slice a ns.length c) ns.length (fl ns) ∧ Below V.heap.size V w'
theorem mkfB (T : TypeId) (X : Value) (w : World) : (Instr.makeFunc (Fn.method "Bytes") #[.iface T X] #[]).run Tryz.prog w = .ok (.func (Fn.method "Bytes") #[.iface T X] #[]) w := rfl
theorem line_no {M : Nat} {sl mp : Value} {L : List Int} {w : World} (hR : Ros M w (.agg #[sl, mp]) L) (hM : M ≤ w.heap.size) {T : TypeId} {X : Value} {FB FS FN : FuncId} {kd : Nat} {fr rd : Int} {N : Nat} {ns : List N3t} (hX : NtM w T X FB FS FN (L.length : Int) kd fr rd N ns) (hf : flt kd (L.length : Int) fr rd N ns ≠ 0) (first : ByteArray) (vb : Value) : Calls Tryz.prog 101 #[.agg #[sl, mp], .iface T X, .string first, vb] w fun e w' => e = .returned (.tuple #[.string ⟨#[]⟩, .int .i64 (flt kd (L.length : Int) fr rd N ns)]) ∧ Below w.heap.size w w' := by
 have hmx := mixO
 obtain ⟨W1, hW1⟩ : ∃ W1, w.alloc (.cells #[sl, mp] 25) = W1 := ⟨_, rfl⟩
 have hb1 : Below w.heap.size w W1 := by rw [← hW1]; exact al1t _ _
 have r1 : W1.heap[w.heap.size]? = some (.cells #[sl, mp] 25 (0, 0)) := by rw [← hW1]; exact zna rfl
 have HSZ : Hid (∀ V, Below w.heap.size w V → Calls Tryz.prog 20 #[.agg #[sl, mp]] V fun e w' => e = .returned (.int .i64 (L.length : Int)) ∧ Below V.heap.size V w') := fun V hV => size_any V (hR.below (hV.mono hM))
 have HX := hX
 obtain ⟨E, hE⟩ : ∃ E, flt kd (L.length : Int) fr rd N ns = E := ⟨_, rfl⟩
 rw [hE] at hf ⊢
 obtain ⟨n, hn⟩ : ∃ n : Int, (L.length : Int) = n := ⟨_, rfl⟩
 rw [hn] at HSZ HX hE
 have HB : Hid (∀ V, Below w.heap.size w V → Calls Tryz.prog FB #[X, .int .i64 n] V fun e w' => ∃ b, e = .returned (.tuple #[b, .int .i64 E]) ∧ Below V.heap.size V w') := fun V hV => (HX.hb V hV).mono (by
  rintro e w' ⟨b, rfl, _, h2⟩
  exact ⟨b, by rw [hE], h2⟩)
 have hJ : Hid (JLn w sl mp W1) := ⟨hb1, r1⟩
 have hne : (E != 0) = true := by simp; exact hf
 have hcb := HX.cb
 have hna := HX.na
 clear hR hX hE hn r1 hf
 go_enter Tryz.func101, Tryz.ntmps101
 go_wp2
 rename_i hK
 refine wp_region_any hmx ?_
 refine zwt (G := (Value)) (fun g i__ => ([(.iface T X), (.agg #[sl, mp]), (.int .i64 n), (.func (Fn.method "Bytes") #[.iface T X] #[]), (.func (Fn.method "Bytes") #[.iface T X] #[]), (.iface T X), (.tuple #[g, .int .i64 E]), (.tuple #[g, .int .i64 E]), g, (.int .i64 E), g, (.int .i64 E)] : List Value).getD i__ undef) (fun g d V => JLn w sl mp V) (by kernel_rfl) (undef) (hJ.out.carry (Below.refl _ _).drew) ?step15 ?fin15
 case step15 =>
  intro i o ho
  have hi : i < 12 := getElem?_lt ho
  match i, hi, ho with
  | 0, _, ho => cases ho; exact zgo fun g d hdep => zmv rfl trivial _ rfl (by kernel_rfl)
  | 1, _, ho => cases ho; exact zgo fun g d hdep => zld rfl trivial _ _ _ rfl rfl (fun v hw => load_ros3 hw.bx)
  | 2, _, ho => cases ho; exact zgo fun g d hdep => zsc rfl trivial 20 _ _ [(.agg #[sl, mp])] rfl (by kernel_rfl) (enters_of Tryz.func20 (by kernel_rfl) rfl) (fun V hw => (HSZ.out V hw.be).mono (by rintro e w' ⟨rfl, h⟩; exact ⟨rfl, hw.carry h⟩))
  | 3, _, ho => cases ho; exact zgo (fun g d hdep => step_mkf rfl trivial _ _ (.iface T X) rfl (by kernel_rfl) (mkfB T X) rfl)
  | 4, _, ho => cases ho; exact zgo (fun g d hdep => step_nilF rfl trivial _ "Bytes" T X rfl (by kernel_rfl) hna rfl)
  | 5, _, ho => cases ho; exact zgo fun g d hdep => zmv rfl trivial _ rfl (by kernel_rfl)
  | 6, _, ho => cases ho; exact stepG_inv1 rfl (fun _ => trivial) FB _ _ _ "Bytes" (.iface T X) (.int .i64 n) [X, .int .i64 n] rfl (fun g => by kernel_rfl) (fun g => by kernel_rfl) (hcb _) (fun g d V hJ hun hdep hcl => (HB.out V hJ.be).mono (by rintro e V' ⟨b, rfl, h2⟩; exact ⟨b, rfl, (fun j hj => match j, hj with | 6, hj => (by rw [hj] at hun; cases hun) | 7, hj => absurd ((hcl 7 _ rfl hj 6 (by kernel_rfl))) (by rw [hun]; simp) | 8, hj => absurd ((hcl 7 _ rfl (hcl 8 _ rfl hj 7 (by kernel_rfl)) 6 (by kernel_rfl))) (by rw [hun]; simp) | 9, hj => absurd ((hcl 7 _ rfl (hcl 9 _ rfl hj 7 (by kernel_rfl)) 6 (by kernel_rfl))) (by rw [hun]; simp) | 10, hj => absurd ((hcl 7 _ rfl (hcl 8 _ rfl (hcl 10 _ rfl hj 8 (by kernel_rfl)) 7 (by kernel_rfl)) 6 (by kernel_rfl))) (by rw [hun]; simp) | 11, hj => absurd ((hcl 7 _ rfl (hcl 9 _ rfl (hcl 11 _ rfl hj 9 (by kernel_rfl)) 7 (by kernel_rfl)) 6 (by kernel_rfl))) (by rw [hun]; simp) | 0, _ => rfl | 1, _ => rfl | 2, _ => rfl | 3, _ => rfl | 4, _ => rfl | 5, _ => rfl | _ + 12, _ => rfl), hJ.carry h2⟩))
  | 7, _, ho => cases ho; exact zgo fun g d hdep => zmv rfl trivial _ rfl (by kernel_rfl)
  | 8, _, ho => cases ho; exact zgo fun g d hdep => step_extract rfl trivial _ _ _ rfl rfl (fun v hw => rfl)
  | 9, _, ho => cases ho; exact zgo fun g d hdep => step_extract rfl trivial _ _ _ rfl rfl (fun v hw => rfl)
  | 10, _, ho => cases ho; exact zgo fun g d hdep => zas rfl trivial _ rfl (by kernel_rfl) (fun _ h => h)
  | 11, _, ho => cases ho; exact zgo fun g d hdep => zas rfl trivial _ rfl (by kernel_rfl) (fun _ h => h)
 intro g d W hall hW
 first | refine hK _ _ ?_ | refine (‹∀ (a : Act) (w : World), Code.wp Tryz.prog _ _ a w → _›) _ _ ?_ | skip
 simp only [finL, List.getD_cons_zero, List.getD_cons_succ, Nat.zero_add, Nat.reduceAdd, List.setIfInBounds_toArray, List.set_cons_zero, List.set_cons_succ]
 have HW : Hid (JLn w sl mp W) := hW
 clear hK hW hall hJ
 go_wp2
 go_ret2
 exact ⟨rfl, HW.out.be⟩
end Go.Proofs.YtmahamdmapbilaaGreatDoor
