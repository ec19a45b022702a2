/- The document's Copy and Merge: what they answer. -/
import Derived.Test.YtojegojeolkgpaaGreatBkr
namespace Go.Proofs.YtojegojeolkgpaaGreat
open Go.RowKit Go.Shelf Go.Lib

theorem bi_lenN (t : TypeId) (bs : Array Bool) (a : Option Addr) (n c : Nat) (w : World) : (builtin .len #[23] t bs #[.slice a n c]).run Tryz.prog w = .ok (.value (.int .i64 (n : Int))) w := by
  show ((do pure (.value (← Builtin.len_ #[23] t #[.slice a n c]))) : Sem Next).run Tryz.prog w = _
  go_simp
set_option maxHeartbeats 4000000 in
set_option maxRecDepth 100000 in
theorem rCopy_any {w : World} (ad : Option Addr) (n cap : Nat) (L : List N3) (h : RdN w ad L) (hn : L.length = n) (h0 : 0 < n) (h1 : n ≤ 100) : Calls Tryz.prog 119 #[.agg #[.slice ad n cap]] w fun e w' => ∃ g cap', e = .returned (.agg #[.slice (some ⟨g, 0, none⟩) n cap']) ∧ w'.ownsRow w.heap.size 62 3 (.slice (some ⟨g, 0, none⟩) n cap') n (fl L) ∧ Below w.heap.size w w' := by
  obtain ⟨ic, hic, hz0, hz1, hz2⟩ := info_partsN
  obtain ⟨b, off, rfl, hb, hat⟩ := h (fun e => by rw [e] at hn; simp at hn; omega)
  have hr0 : RB ((w.alloc (.cells #[.slice (some ⟨b, off, none⟩) n cap] 47)).alloc (.cells #[.slice none 0 0] 47)) (w.heap.size + 1) (.slice none 0 0) := new_at (by simp)
  have hbw := al2 w (.cells #[.slice (some ⟨b, off, none⟩) n cap] 47) (.cells #[.slice none 0 0] 47)
  have hsrc : ∀ j u, (fl L)[j]? = some u → ((w.alloc (.cells #[.slice (some ⟨b, off, none⟩) n cap] 47)).alloc (.cells #[.slice none 0 0] 47)).cell? ((⟨b, off, none⟩ : Addr).add j) = some u := nts_src (NtsAt.carry hat hb hbw)
  have hfl : (fl L).length = n * 3 := by rw [fl_len, hn]
  have hnil := World.ownsRow_nil ((w.alloc (.cells #[.slice (some ⟨b, off, none⟩) n cap] 47)).alloc (.cells #[.slice none 0 0] 47)) (w.heap.size + 2) 62 3
  have HFO : Hid (∀ u ∈ fl L, u.oneCell' = true) := fl_one L
  clear h hat hn
  generalize fl L = X at *
  go_enter Tryz.func119, Tryz.ntmps119
  go_wp2_with (at_builtin; refine wpList_append_own _ rfl _ _ 23 rfl (w.heap.size + 2) 62 ic _ 3 24 Tryz.underlying23 hic hz0 hz1 hz2 rfl (by decide) _ 0 [] rfl hnil ⟨b, off, none⟩ n cap X rfl hfl hsrc HFO.out (by unfold maxLen; omega) (by omega) (by simp) ?_; intro v u ho0 hgu0 _; have hgu : World.grownBy _ u none := hgu0; have ho : u.ownsRow (w.heap.size + 2) 62 3 v n X := (by simpa using ho0); obtain ⟨m, rfl⟩ : ∃ m, n = m + 1 := ⟨n - 1, by omega⟩; obtain ⟨g, cp, rfl⟩ := ownsRow_succ ho; have hrb : RB u (w.heap.size + 1) (.slice none 0 0) := (hgu.block _ (by simp) (by simp)).trans hr0; have r0 := hrb.cell; have r1 := hrb.thaw; have HRB : Hid (RB u (w.heap.size + 1) (.slice none 0 0)) := hrb; clear hrb ho0)
  have hg0 := (own_block2 ho).1
  refine retR rfl rfl rfl (HRB.out.set _) ⟨g, cp, rfl, ?_, ?_⟩
  · exact ownsRow_base (ownsRow_set ho (fun q hq => by cases hq; simp only; omega) _) (by omega)
  · exact (hbw.grown hgu (by simp; omega) (fun k e => by cases e)).setCell (by simp) _
structure RM1 (w : World) (ad : Option Addr) (n cap : Nat) (W : World) : Prop where
  b0 : RB W w.heap.size (.slice ad n cap)
  b1 : RB W (w.heap.size + 1) (.slice none 0 0)
  b2 : Holds4 W (w.heap.size + 2) (fun _ => 0)
  below : Below w.heap.size w W
theorem RM1.carry {w W V : World} {ad : Option Addr} {n cap : Nat} (h : RM1 w ad n cap W) (hb : Below W.heap.size W V) : RM1 w ad n cap V := ⟨h.b0.carry hb, h.b1.carry hb, h.b2.carry hb, bel2 h.below hb⟩
structure RM2 (w : World) (bs bc gc n capc : Nat) (s : List N3 × Nat) (W : World) : Prop where
  b1 : RB W (w.heap.size + 1) (.slice none 0 0)
  b2 : Holds4 W (w.heap.size + 2) (fun _ => 0)
  bk : RB W bc (.slice (some ⟨gc, 0, none⟩) n capc)
  row : ∃ cur, W.heap[gc]? = some (.cells cur 62 (0, 0))
  nts : NtsAt W gc 0 s.1
  set : Holds4 W bs (wd s.2)
  below : Below w.heap.size w W
theorem RM2.carry {w W V : World} {bs bc gc n capc : Nat} {s : List N3 × Nat} (h : RM2 w bs bc gc n capc s W) (hb : Below W.heap.size W V) : RM2 w bs bc gc n capc s V := by
  obtain ⟨cur, hc⟩ := h.row
  exact ⟨h.b1.carry hb, h.b2.carry hb, h.bk.carry hb, ⟨cur, (hb.block _ (lt_at hc)).trans hc⟩, h.nts.carry (lt_at hc) hb, h.set.carry hb, bel2 h.below hb⟩
/-- The blocks are others. -/
structure Sep6 (w : World) (bs bc gc : Nat) : Prop where
  s1 : w.heap.size + 2 < bs
  s2 : w.heap.size + 2 < bc
  s3 : w.heap.size + 2 < gc
  s4 : bs ≠ bc
  s5 : bs ≠ gc
  s6 : bc ≠ gc
theorem w3o_other {W : World} {B off k : Nat} (h : k ≠ B) (a b c : Int) : (W3o W B off a b c).heap[k]? = W.heap[k]? := by
  unfold W3o
  rw [Below.heap_setCell _ _ _ _ h, Below.heap_setCell _ _ _ _ h, Below.heap_setCell _ _ _ _ h]
theorem RM2.put {w W : World} {bs bc gc n capc : Nat} {s : List N3 × Nat} (h : RM2 w bs bc gc n capc s W) (hs : Sep6 w bs bc gc) (i : Nat) (hi : i < s.1.length) (o t k : Int) : RM2 w bs bc gc n capc (s.1.set i (o, t, k), s.2) (W3o W gc (i * 3) o t k) := by
  obtain ⟨cur, hc⟩ := h.row
  have h0 := heap_setCell_same _ _ (i * 3) _ _ (.int .i64 o) hc
  have h1 := heap_setCell_same _ _ (i * 3 + 1) _ _ (.int .i64 t) h0
  have h2 := heap_setCell_same _ _ (i * 3 + 2) _ _ (.int .i64 k) h1
  obtain ⟨s1, s2, s3, s4, s5, s6⟩ := hs
  exact ⟨(w3o_other (by omega) _ _ _).trans h.b1, (w3o_other (by omega) _ _ _).trans h.b2, (w3o_other s6 _ _ _).trans h.bk, ⟨_, h2⟩, h.nts.put hc i hi o t k, (w3o_other s5 _ _ _).trans h.set, below3o h.below (by omega) _ _ _ _⟩
theorem NtsAt.aside4 {W : World} {g b M off : Nat} {l : List N3} (h : NtsAt W g off l) (hne : g ≠ b) : NtsAt (set4 W b M) g off l := by
  unfold set4
  exact (((h.aside hne).aside hne).aside hne).aside hne
theorem set4_other {W : World} {b k M : Nat} (h : k ≠ b) : (set4 W b M).heap[k]? = W.heap[k]? := by
  unfold set4
  rw [Below.heap_setCell _ _ _ _ h, Below.heap_setCell _ _ _ _ h, Below.heap_setCell _ _ _ _ h, Below.heap_setCell _ _ _ _ h]
theorem RM2.setS {w W : World} {bs bc gc n capc : Nat} {s : List N3 × Nat} (h : RM2 w bs bc gc n capc s W) (hs : Sep6 w bs bc gc) (M : Nat) : RM2 w bs bc gc n capc (s.1, M) (set4 W bs M) := by
  obtain ⟨cur, hc⟩ := h.row
  obtain ⟨s1, s2, s3, s4, s5, s6⟩ := hs
  exact ⟨(set4_other (by omega)).trans h.b1, (set4_other (by omega)).trans h.b2, (set4_other s4.symm).trans h.bk, ⟨_, (set4_other s5.symm).trans hc⟩, h.nts.aside4 s5.symm, fin4 h.set M, below4 h.below (by omega) M⟩
theorem store_row {W : World} {g : Nat} {cur : Array Value} {l : List N3} (h : NtsAt W g 0 l) (hg : W.heap[g]? = some (.cells cur 62 (0, 0))) (i : Nat) (hi : i < l.length) (o t k : Int) : (Instr.storeAt 62 (.pointer (some ⟨g, 0 + i * 3, none⟩)) (nt o t k)).run Tryz.prog W = .ok () (W3o W g (i * 3) o t k) := by
  obtain ⟨x, hx⟩ : ∃ x, l[i]? = some x := ⟨_, List.getElem?_eq_getElem hi⟩
  obtain ⟨c0, c1, c2⟩ := h i x hx
  rw [Nat.zero_add] at *
  have z0 := thaw_at hg (i * 3)
  have z1 := thaw_at hg (i * 3 + 1)
  have z2 := thaw_at hg (i * 3 + 2)
  unfold nt W3o
  go_simp
theorem store_rb {W : World} {b n c : Nat} {v : Value} {ad : Option Addr} (h : RB W b v) : (Instr.storeAt 47 (.pointer (some ⟨b, 0, none⟩)) (.agg #[.slice ad n c])).run Tryz.prog W = .ok () (W.setCell ⟨b, 0, none⟩ (.slice ad n c)) := by
  have c0 := h.cell
  have z0 := h.thaw
  go_simp
theorem store_set {W : World} {b M : Nat} {c : Nat → Nat} (h : Holds4 W b c) : (Instr.storeAt 76 (.pointer (some ⟨b, 0, none⟩)) (sv M)).run Tryz.prog W = .ok () (set4 W b M) := by
  obtain ⟨y0, y1, y2, y3, z0, z1, z2, z3⟩ := h.facts
  unfold sv set4
  go_simp
structure RM3 (w : World) (bs bc gc n capc : Nat) (s : List N3 × Nat) (x y : Bool) (W : World) : Prop where
  b1 : RB W (w.heap.size + 1) (if x = true then .slice (some ⟨gc, 0, none⟩) n capc else .slice none 0 0)
  b2 : Holds4 W (w.heap.size + 2) (if y = true then wd s.2 else fun _ => 0)
  bk : RB W bc (.slice (some ⟨gc, 0, none⟩) n capc)
  row : ∃ cur, W.heap[gc]? = some (.cells cur 62 (0, 0))
  nts : NtsAt W gc 0 s.1
  set : Holds4 W bs (wd s.2)
  below : Below w.heap.size w W
theorem RM3.st1 {w W : World} {bs bc gc n capc : Nat} {s : List N3 × Nat} {x y : Bool} (h : RM3 w bs bc gc n capc s x y W) (hs : Sep6 w bs bc gc) : RM3 w bs bc gc n capc s true y (W.setCell ⟨w.heap.size + 1, 0, none⟩ (.slice (some ⟨gc, 0, none⟩) n capc)) := by
  obtain ⟨s1, s2, s3, s4, s5, s6⟩ := hs
  exact ⟨by simpa using h.b1.set (.slice (some ⟨gc, 0, none⟩) n capc), (Below.heap_setCell _ _ _ _ (by simp)).trans h.b2, h.bk.other (by omega), (by obtain ⟨cur, hc⟩ := h.row; exact ⟨cur, (Below.heap_setCell _ _ _ _ (by simp only; omega)).trans hc⟩), h.nts.aside (by omega), (Below.heap_setCell _ _ _ _ (by simp only; omega)).trans h.set, h.below.setCell (by simp) _⟩
theorem RM3.st2 {w W : World} {bs bc gc n capc : Nat} {s : List N3 × Nat} {x y : Bool} (h : RM3 w bs bc gc n capc s x y W) (hs : Sep6 w bs bc gc) : RM3 w bs bc gc n capc s x true (set4 W (w.heap.size + 2) s.2) := by
  obtain ⟨s1, s2, s3, s4, s5, s6⟩ := hs
  exact ⟨(set4_other (by omega)).trans h.b1, by simpa using fin4 h.b2 s.2, (set4_other (by omega)).trans h.bk, (by obtain ⟨cur, hc⟩ := h.row; exact ⟨cur, (set4_other (by omega)).trans hc⟩), h.nts.aside4 (by omega), (set4_other (by omega)).trans h.set, below4 h.below (by omega) _⟩
theorem Sep6.len {l m : List N3} (k : Nat) : (stt l m k).1.length = l.length := stt_len l m k
set_option maxHeartbeats 8000000 in
set_option maxRecDepth 100000 in
theorem rMerge_any {w : World} (ad : Option Addr) (n cap : Nat) (L : List N3) (hL : RdN w ad L) (hn : L.length = n) (h0 : 0 < n) (h1 : n ≤ 100) (hcap : n ≤ cap) (ad2 : Option Addr) (cap2 : Nat) (m : List N3) (hm : RdN w ad2 m) (hl : m.length ≤ 6000000000000) : Calls Tryz.prog 83 #[.agg #[.slice ad n cap], .slice ad2 m.length cap2] w fun e w' => ∃ ad' cap', e = .returned (.tuple #[.agg #[.slice ad' n cap'], sv (mrs L m), .int .i64 (if m.all (vlx L.length) = true then 0 else 50)]) ∧ RdN w' ad' (mrg L m) ∧ n ≤ cap' ∧ (ad' = ad ∨ ∀ a, ad' = some a → w.heap.size ≤ a.block ∧ ∃ cur, w'.heap[a.block]? = some (.cells cur 62 (0, 0))) ∧ Below w.heap.size w w' := by
  have hmx : Tryz.prog.follows .mixedOrders = true := by kernel_rfl
  obtain ⟨N, hN⟩ : ∃ N, m.length = N := ⟨_, rfl⟩
  have HN : Hid (m.length = N) := hN
  rw [hN] at hl ⊢
  clear hN
  have HM : Hid (RdN w ad2 m) := hm
  have HL : Hid (RdN w ad L) := hL
  have HLN : Hid (L.length = n) := hn
  obtain ⟨E, hE⟩ : ∃ E : Int, (if m.all (vlx L.length) = true then (0 : Int) else 50) = E := ⟨_, rfl⟩
  obtain ⟨S, hS⟩ : ∃ N, mrs L m = N := ⟨_, rfl⟩
  obtain ⟨M, hMM⟩ : ∃ M, mrg L m = M := ⟨_, rfl⟩
  rw [hE, hS, hMM]
  have HE : Hid ((if m.all (vlx L.length) = true then (0 : Int) else 50) = E) := hE
  have HNN : Hid (mrs L m = S) := hS
  have HMM : Hid (mrg L m = M) := hMM
  clear hE hS hMM hm hL hn
  have hj0 : RM1 w ad n cap (((w.alloc (.cells #[.slice ad n cap] 47)).alloc (.cells #[.slice none 0 0] 47)).alloc (.cells #[.int .u32 0, .int .u32 0, .int .u32 0, .int .u32 0] 76)) := ⟨old_at (old_at (new_at rfl)), old_at (new_at (by simp)), new_at (by simp), al3 _ _ _ _⟩
  go_enter Tryz.func83, Tryz.ntmps83
  go_wp2
  go_loopw [7] (fun i wz => ∃ (k : Nat), i = .int .i64 k ∧ k ≤ N ∧ Hid ((m.take k).all (vlx L.length) = true) ∧ RM1 w ad n cap wz) (fun i _ => N - vnatR i)
  case atStart => exact ⟨0, rfl, Nat.zero_le _, rfl, hj0⟩
  case round =>
    obtain ⟨k, rfl, hk, HK, hj⟩ := hrel
    clear hj0
    by_cases hkl : k < N
    · have hkl1 : k < m.length := by rw [HN.out]; exact hkl
      have hki : (k : Int) < (N : Int) := by omega
      obtain ⟨⟨o, t, q⟩, hx⟩ : ∃ x, m[k]? = some x := ⟨_, List.getElem?_eq_getElem hkl1⟩
      obtain ⟨b, off, e1, hbl, hat⟩ := HM.out (fun e => by rw [e] at hkl1; simp at hkl1)
      subst e1
      have HAT : Hid (NtsAt w b off m) := hat
      have HX : Hid (m[k]? = some (o, t, q)) := hx
      have hva := rValid_any (n : Int) o t q
      obtain ⟨B, hB⟩ : ∃ B, vl (n : Int) o t q = B := ⟨_, rfl⟩
      rw [hB] at hva
      have HB : Hid (vlx L.length (o, t, q) = B) := by show vl (L.length : Int) o t q = B; rw [HLN.out]; exact hB
      clear hx hat hkl1 hB
      go_wp2
      rename_i Q0 K0 hK
      refine wp_region_any hmx ?_
      refine wpAny_pure (fun i__ => ([(.pointer (some ⟨w.heap.size, 0, none⟩)), (.slice ad n cap), (.int .i64 (n : Int)), (.slice (some ⟨b, off, none⟩) N cap2), (.int .i64 (k : Int)), (.pointer (some ⟨b, off + k * 3, none⟩)), (nt o t q), (.bool B), (.bool (!B))] : List Value).getD i__ undef) (fun V => RM1 w ad n cap V) (by kernel_rfl) (hj.carry (Below.refl _ _).drew) ?_ ?_
      · refine (stepsFrom_cons ?_ (stepsFrom_cons ?_ (stepsFrom_cons ?_ (stepsFrom_cons ?_ (stepsFrom_cons ?_ (stepsFrom_cons ?_ (stepsFrom_cons ?_ (stepsFrom_cons ?_ (stepsFrom_cons ?_ trivial)))))))))
        · exact step_fieldAddr rfl trivial _ _ _ _ rfl rfl (fun w hw => field_rb w _)
        · exact step_load rfl trivial _ _ _ rfl rfl (fun w hw => load_rb hw.b0)
        · exact step_bi rfl trivial _ _ _ [(.slice ad n cap)] rfl (by kernel_rfl) (fun cs w hw => bi_lenN _ cs ad n cap w)
        · exact step_move rfl trivial _ rfl (by kernel_rfl)
        · exact step_move rfl trivial _ rfl (by kernel_rfl)
        · exact step_indexAddr rfl trivial _ _ _ _ _ rfl rfl rfl (fun w hw => idx_n b off _ _ k hkl w)
        · exact step_load rfl trivial _ _ _ rfl rfl (fun w hw => load_at (HAT.out.carry hbl hw.below) HX.out)
        · exact step_call rfl trivial 117 _ _ [(.int .i64 (n : Int)), (nt o t q)] rfl (by kernel_rfl) (enters_of Tryz.func117 (by kernel_rfl) rfl) (fun w hw => (hva w).mono (by rintro e w' ⟨rfl, hb⟩; exact ⟨rfl, hw.carry hb⟩))
        · exact step_unOp rfl trivial _ _ _ _ rfl rfl (fun w hw => un_not B w)
      intro W hW
      first | refine hK _ _ ?_ | refine (‹∀ (a : Act) (w : World), Code.wp Tryz.prog _ _ a w → _›) _ _ ?_
      simp only [finL, List.getD_cons_zero, List.getD_cons_succ, Nat.zero_add, Nat.reduceAdd, List.setIfInBounds_toArray, List.set_cons_zero, List.set_cons_succ]
      clear hK hva
      have hj2 := hW
      clear hW hj
      cases B with
      | false =>
        have HF : Hid (m.all (vlx L.length) = false) := by
          show m.all (vlx L.length) = false
          have h1 := HB.out
          by_cases q : m.all (vlx L.length) = true
          · exact absurd (List.all_eq_true.1 q _ (List.mem_of_getElem? HX.out)) (by rw [h1]; decide)
          · simpa using q
        have HR : Hid (Holds4 W (w.heap.size + 2) (fun _ => 0)) := hj2.b2
        obtain ⟨y0, y1, y2, y3, z0, z1, z2, z3⟩ := HR.out.facts
        have r0 := hj2.b0.cell
        have r1 := hj2.b1.cell
        have r2 := hj2.b1.thaw
        have HB1 : Hid (RB W (w.heap.size + 1) (.slice none 0 0)) := hj2.b1
        have hbW := hj2.below
        have HADL : Hid (RdN W ad L) := HL.out.carry hbW
        have hlt := lt_at hj2.b2
        clear hj2
        go_wp2
        have hbf : Below w.heap.size w (set4 (W.setCell ⟨w.heap.size + 1, 0, none⟩ (.slice ad n cap)) (w.heap.size + 1 + 1) 0) := below4 (hbW.setCell (by simp) _) (by omega) 0
        have hq1 : RB (set4 (W.setCell ⟨w.heap.size + 1, 0, none⟩ (.slice ad n cap)) (w.heap.size + 1 + 1) 0) (w.heap.size + 1) (.slice ad n cap) := (set4_other (by omega)).trans (HB1.out.set _)
        have hq2 : Holds4 (set4 (W.setCell ⟨w.heap.size + 1, 0, none⟩ (.slice ad n cap)) (w.heap.size + 1 + 1) 0) (w.heap.size + 1 + 1) (wd 0) := fin4 (c := fun _ => 0) ((Below.heap_setCell _ _ _ _ (by simp)).trans HR.out) 0
        refine retRst (M := 0) (x := .int .i64 50) rfl rfl rfl rfl rfl hq1 hq2 ?_
        obtain rfl : (50 : Int) = E := by rw [← HE.out, if_neg (by rw [HF.out]; decide)]
        obtain rfl : 0 = S := by rw [← HNN.out]; unfold mrs; rw [if_neg (by rw [HF.out]; decide)]
        obtain rfl : L = M := by rw [← HMM.out]; unfold mrg; rw [if_neg (by rw [HF.out]; decide)]
        exact ⟨ad, cap, rfl, HL.out.carry hbf, hcap, .inl rfl, hbf⟩
      | true =>
        have HK1 : Hid ((m.take (k + 1)).all (vlx L.length) = true) := by
          show (m.take (k + 1)).all (vlx L.length) = true
          rw [List.take_add_one, HX.out, List.all_append, HK.out]
          simpa using HB.out
        go_wp2
        go_roundw
        case rel => exact ⟨k + 1, by simp, by omega, HK1, hj2⟩
        case measure => simp [vnatR]; omega
    · have hkk : k = N := by omega
      subst hkk
      have HA : Hid (m.all (vlx L.length) = true) := by
        have := HK.out
        rwa [List.take_of_length_le (by rw [HN.out]; exact Nat.le_refl _)] at this
      clear HK
      have HLW : Hid (RdN (wr.alloc (.cells #[.int .u32 0, .int .u32 0, .int .u32 0, .int .u32 0] 76)) ad L) := HL.out.carry (hj.below.alloc hj.below.size _)
      have k1 := rCopy_any ad n cap L HLW.out HLN.out h0 h1
      have r0 := hj.b0.cell
      have hlw := lt_at hj.b2
      have hlw0 := lt_at hj.b0
      have HJ : Hid (RM1 w ad n cap wr) := hj
      clear hj
      go_wp2_with (go_at_call 119; (with_reducible refine k1.mono ?_); rintro e v1 ⟨gc, capc, rfl, hown, hb1⟩)
      obtain ⟨hgb, hcc, cur, hcur⟩ := own_block2 hown
      have hgl := lt_at hcur
      have hsz1 := hb1.size
      simp only [World.size_alloc] at hgb hsz1
      have hj1 := (HJ.out.carry (al1 wr (.cells #[.int .u32 0, .int .u32 0, .int .u32 0, .int .u32 0] 76))).carry hb1
      have hj2 := hj1.carry (al1 v1 (.cells #[.slice (some ⟨gc, 0, none⟩) n capc] 47))
      have hset : Holds4 v1 wr.heap.size (wd 0) := Holds4.congr (c := fun _ => 0) ((hb1.block _ (by simp)).trans (new_at rfl)) (fun j _ => (wd_zero j).symm)
      have hR2 : RM2 w wr.heap.size v1.heap.size gc n capc (stt L m 0) (v1.alloc (.cells #[.slice (some ⟨gc, 0, none⟩) n capc] 47)) := ⟨hj2.b1, hj2.b2, new_at rfl, ⟨cur, old_at hcur⟩, NtsAt.carry (nts_own hown HLN.out.symm) hgl (al1 _ _), old_at hset, hj2.below⟩
      have hsep : Sep6 w wr.heap.size v1.heap.size gc := ⟨by omega, by omega, by omega, by omega, by omega, by omega⟩
      obtain ⟨bs, hbs⟩ : ∃ bs, wr.heap.size = bs := ⟨_, rfl⟩
      obtain ⟨bc, hbc⟩ : ∃ bc, v1.heap.size = bc := ⟨_, rfl⟩
      rw [hbs, hbc] at hR2 hsep ⊢
      clear hj1 hj2 hset hown hb1 k1 r0 hcur hgb hsz1 hgl hlw HJ
      go_loopw [10] (fun i wz => ∃ (j : Nat), i = .int .i64 j ∧ j ≤ k ∧ RM2 w bs bc gc n capc (stt L m j) wz) (fun i _ => k - vnatR i)
      case atStart => exact ⟨0, rfl, Nat.zero_le _, hR2⟩
      case round =>
        obtain ⟨j, rfl, hjk, hj⟩ := hrel
        clear hR2
        by_cases hjl : j < k
        · have hjl1 : j < m.length := by rw [HN.out]; exact hjl
          have hji : (j : Int) < (k : Int) := by omega
          obtain ⟨⟨o, t, q⟩, hx⟩ : ∃ x, m[j]? = some x := ⟨_, List.getElem?_eq_getElem hjl1⟩
          have hv := List.all_eq_true.1 HA.out _ (List.mem_of_getElem? hx)
          obtain ⟨_, h100, hp, hq1, _⟩ := vlx_iff.1 hv
          obtain ⟨i, rfl⟩ : ∃ i : Nat, o = (i : Int) := ⟨o.toNat, by simpa using (Int.toNat_of_nonneg hp).symm⟩
          have hi : i < n := by have := HLN.out; simp at hq1; omega
          have hil : i < (stt L m j).1.length := by rw [stt_len, HLN.out]; exact hi
          obtain ⟨⟨o', t', q'⟩, hy⟩ : ∃ y, (stt L m j).1[i]? = some y := ⟨_, List.getElem?_eq_getElem hil⟩
          obtain ⟨b, off, e1, hbl, hat⟩ := HM.out (fun e => by rw [e] at hjl1; simp at hjl1)
          subst e1
          have HAT : Hid (NtsAt w b off m) := hat
          have HX : Hid (m[j]? = some ((i : Int), t, q)) := hx
          have HY : Hid ((stt L m j).1[i]? = some (o', t', q')) := hy
          have hbat : bat (stt L m j).1 ((i : Int), t, q) = bt (i : Int) t q o' t' q' := by
            unfold bat
            simp only [Int.toNat_natCast, hy]
            rfl
          have HST : Hid (stt L m (j + 1) = if bt (i : Int) t q o' t' q' = true then ((stt L m j).1.set i ((i : Int), t, q), (stt L m j).2 ||| 2 ^ i) else stt L m j) := by
            show _ = _
            rw [stt_step hx]
            unfold bst rse
            rw [hbat, Int.toNat_natCast]
            by_cases hc : bt (i : Int) t q o' t' q' = true
            · rw [if_pos hc, if_pos hc, if_pos hc]
            · rw [if_neg hc, if_neg hc]
          have hbe := rBeats_any (i : Int) t q o' t' q'
          have hS100 := stt_lt HA.out j
          generalize stt L m j = s at hj hil HY HST hS100
          generalize bt (i : Int) t q o' t' q' = B at hbe HST
          clear hx hat hjl1 hv hp hq1 hy hbat
          go_wp2
          rename_i Q0 K0 hK
          refine wp_region_any hmx ?_
          refine wpAny_pure (fun i__ => ([(.slice (some ⟨b, off, none⟩) k cap2), (.int .i64 (j : Int)), (.pointer (some ⟨b, off + j * 3, none⟩)), (nt (i : Int) t q), (.pointer (some ⟨bc, 0, none⟩)), (.slice (some ⟨gc, 0, none⟩) n capc), (.slice (some ⟨b, off, none⟩) k cap2), (.int .i64 (j : Int)), (.pointer (some ⟨b, off + j * 3, none⟩)), (.pointer (some ⟨b, off + j * 3, none⟩)), (.int .i64 (i : Int)), (.pointer (some ⟨gc, 0 + i * 3, none⟩)), (nt o' t' q'), (.bool B)] : List Value).getD i__ undef) (fun V => RM2 w bs bc gc n capc s V) (by kernel_rfl) (hj.carry (Below.refl _ _).drew) ?_ ?_
          · refine (stepsFrom_cons ?_ (stepsFrom_cons ?_ (stepsFrom_cons ?_ (stepsFrom_cons ?_ (stepsFrom_cons ?_ (stepsFrom_cons ?_ (stepsFrom_cons ?_ (stepsFrom_cons ?_ (stepsFrom_cons ?_ (stepsFrom_cons ?_ (stepsFrom_cons ?_ (stepsFrom_cons ?_ (stepsFrom_cons ?_ (stepsFrom_cons ?_ trivial))))))))))))))
            · exact step_move rfl trivial _ rfl (by kernel_rfl)
            · exact step_move rfl trivial _ rfl (by kernel_rfl)
            · exact step_indexAddr rfl trivial _ _ _ _ _ rfl rfl rfl (fun w hw => idx_n b off _ _ j hjl w)
            · exact step_load rfl trivial _ _ _ rfl rfl (fun w hw => load_at (HAT.out.carry hbl hw.below) HX.out)
            · exact step_fieldAddr rfl trivial _ _ _ _ rfl rfl (fun w hw => field_rb w _)
            · exact step_load rfl trivial _ _ _ rfl rfl (fun w hw => load_rb hw.bk)
            · exact step_move rfl trivial _ rfl (by kernel_rfl)
            · exact step_move rfl trivial _ rfl (by kernel_rfl)
            · exact step_indexAddr rfl trivial _ _ _ _ _ rfl rfl rfl (fun w hw => idx_n b off _ _ j hjl w)
            · exact step_fieldAddr rfl trivial _ _ _ _ rfl rfl (fun w hw => field_at w _ _)
            · exact step_load rfl trivial _ _ _ rfl rfl (fun w hw => load_of (HAT.out.carry hbl hw.below) HX.out)
            · exact step_indexAddr rfl trivial _ _ _ _ _ rfl rfl rfl (fun w hw => idx_n gc 0 _ _ i hi w)
            · exact step_load rfl trivial _ _ _ rfl rfl (fun w hw => load_at hw.nts HY.out)
            · exact step_call rfl trivial 118 _ _ [(nt (i : Int) t q), (nt o' t' q')] rfl (by kernel_rfl) (enters_of Tryz.func118 (by kernel_rfl) rfl) (fun w hw => (hbe w).mono (by rintro e w' ⟨rfl, hb⟩; exact ⟨rfl, hw.carry hb⟩))
          intro W hW
          first | refine hK _ _ ?_ | refine (‹∀ (a : Act) (w : World), Code.wp Tryz.prog _ _ a w → _›) _ _ ?_
          simp only [finL, List.getD_cons_zero, List.getD_cons_succ, Nat.zero_add, Nat.reduceAdd, List.setIfInBounds_toArray, List.set_cons_zero, List.set_cons_succ]
          clear hK hbe hj
          have hj2 := hW
          clear hW
          cases B with
          | false =>
            have HS2 := HST.out
            rw [if_neg (by decide)] at HS2
            have HEnd : Hid (RM2 w bs bc gc n capc (stt L m (j + 1)) W) := by show RM2 _ _ _ _ _ _ _ _; rw [HS2]; exact hj2
            clear HS2
            go_wp2
            go_roundw
            case rel => exact ⟨j + 1, by simp, by omega, HEnd.out⟩
            case measure => simp [vnatR]; omega
          | true =>
            have HS2 := HST.out
            rw [if_pos rfl] at HS2
            have HS3 : Hid (stt L m (j + 1) = (s.1.set i ((i : Int), t, q), s.2 ||| 2 ^ i)) := HS2
            clear HS2 HST
            have hpu := rPut_any s.2 hS100 i (by omega)
            go_wp2
            refine wp_region_any hmx ?_
            obtain ⟨Wa, hWa⟩ : ∃ Wa, W = Wa := ⟨_, rfl⟩
            rw [hWa] at hj2 ⊢
            refine wpAny_last 12 (fun i__ => ([(.pointer (some ⟨bc, 0, none⟩)), (.slice (some ⟨gc, 0, none⟩) n capc), (.slice (some ⟨b, off, none⟩) k cap2), (.int .i64 (j : Int)), (.pointer (some ⟨b, off + j * 3, none⟩)), (.pointer (some ⟨b, off + j * 3, none⟩)), (.int .i64 (i : Int)), (.slice (some ⟨b, off, none⟩) k cap2), (.int .i64 (j : Int)), (.pointer (some ⟨b, off + j * 3, none⟩)), (nt (i : Int) t q), (.pointer (some ⟨gc, 0 + i * 3, none⟩)), undef] : List Value).getD i__ undef) (fun V => RM2 w bs bc gc n capc s V) (fun V => RM2 w bs bc gc n capc (s.1.set i ((i : Int), t, q), s.2) V) rfl (by kernel_rfl) (by kernel_rfl) (hj2.carry (Below.refl _ _).drew) ?_ ?_  ?_
            · refine (stepsFrom_cons ?_ (stepsFrom_cons ?_ (stepsFrom_cons ?_ (stepsFrom_cons ?_ (stepsFrom_cons ?_ (stepsFrom_cons ?_ (stepsFrom_cons ?_ (stepsFrom_cons ?_ (stepsFrom_cons ?_ (stepsFrom_cons ?_ (stepsFrom_cons ?_ (stepsFrom_cons ?_ trivial))))))))))))
              · exact step_fieldAddr rfl trivial _ _ _ _ rfl rfl (fun w hw => field_rb w _)
              · exact step_load rfl trivial _ _ _ rfl rfl (fun w hw => load_rb hw.bk)
              · exact step_move rfl trivial _ rfl (by kernel_rfl)
              · exact step_move rfl trivial _ rfl (by kernel_rfl)
              · exact step_indexAddr rfl trivial _ _ _ _ _ rfl rfl rfl (fun w hw => idx_n b off _ _ j hjl w)
              · exact step_fieldAddr rfl trivial _ _ _ _ rfl rfl (fun w hw => field_at w _ _)
              · exact step_load rfl trivial _ _ _ rfl rfl (fun w hw => load_of (HAT.out.carry hbl hw.below) HX.out)
              · exact step_move rfl trivial _ rfl (by kernel_rfl)
              · exact step_move rfl trivial _ rfl (by kernel_rfl)
              · exact step_indexAddr rfl trivial _ _ _ _ _ rfl rfl rfl (fun w hw => idx_n b off _ _ j hjl w)
              · exact step_load rfl trivial _ _ _ rfl rfl (fun w hw => load_at (HAT.out.carry hbl hw.below) HX.out)
              · exact step_indexAddr rfl trivial _ _ _ _ _ rfl rfl rfl (fun w hw => idx_n gc 0 _ _ i hi w)
            · intro o ho
              cases ho
              exact step_store rfl trivial rfl _ _ _ _ _ rfl rfl rfl (fun w hw => by obtain ⟨cur, hc⟩ := hw.row; exact ⟨_, store_row hw.nts hc i hil _ _ _, hw.put hsep i hil _ _ _⟩)
            intro W hW
            first | refine hK _ _ ?_ | refine (‹∀ (a : Act) (w : World), Code.wp Tryz.prog _ _ a w → _›) _ _ ?_
            simp only [finL, List.getD_cons_zero, List.getD_cons_succ, Nat.zero_add, Nat.reduceAdd, List.setIfInBounds_toArray, List.set_cons_zero, List.set_cons_succ]
            have hj3 := hW
            clear hW hj2 hWa
            go_wp2
            refine wp_region_any hmx ?_
            obtain ⟨Wb, hWb⟩ : ∃ Wb, W = Wb := ⟨_, rfl⟩
            rw [hWb] at hj3 ⊢
            refine wpAny_last 7 (fun i__ => ([(sv s.2), (.slice (some ⟨b, off, none⟩) k cap2), (.int .i64 (j : Int)), (.pointer (some ⟨b, off + j * 3, none⟩)), (.pointer (some ⟨b, off + j * 3, none⟩)), (.int .i64 (i : Int)), (sv (s.2 ||| 2 ^ i)), undef] : List Value).getD i__ undef) (fun V => RM2 w bs bc gc n capc (s.1.set i ((i : Int), t, q), s.2) V) (fun V => RM2 w bs bc gc n capc (s.1.set i ((i : Int), t, q), s.2 ||| 2 ^ i) V) rfl (by kernel_rfl) (by kernel_rfl) (hj3.carry (Below.refl _ _).drew) ?_ ?_  ?_
            · refine (stepsFrom_cons ?_ (stepsFrom_cons ?_ (stepsFrom_cons ?_ (stepsFrom_cons ?_ (stepsFrom_cons ?_ (stepsFrom_cons ?_ (stepsFrom_cons ?_ trivial)))))))
              · exact step_load rfl trivial _ _ _ rfl rfl (fun w hw => whole4 w _ s.2 hw.set)
              · exact step_move rfl trivial _ rfl (by kernel_rfl)
              · exact step_move rfl trivial _ rfl (by kernel_rfl)
              · exact step_indexAddr rfl trivial _ _ _ _ _ rfl rfl rfl (fun w hw => idx_n b off _ _ j hjl w)
              · exact step_fieldAddr rfl trivial _ _ _ _ rfl rfl (fun w hw => field_at w _ _)
              · exact step_load rfl trivial _ _ _ rfl rfl (fun w hw => load_of (HAT.out.carry hbl hw.below) HX.out)
              · exact step_call rfl trivial 90 _ _ [(sv s.2), (.int .i64 (i : Int))] rfl (by kernel_rfl) (enters_of Tryz.func90 (by kernel_rfl) rfl) (fun w hw => (hpu w).mono (by rintro e w' ⟨rfl, hb⟩; exact ⟨rfl, hw.carry hb⟩))
            · intro o ho
              cases ho
              exact step_store rfl trivial rfl _ _ _ _ _ rfl rfl rfl (fun w hw => ⟨_, store_set hw.set, hw.setS hsep _⟩)
            intro W hW
            first | refine hK _ _ ?_ | refine (‹∀ (a : Act) (w : World), Code.wp Tryz.prog _ _ a w → _›) _ _ ?_
            simp only [finL, List.getD_cons_zero, List.getD_cons_succ, Nat.zero_add, Nat.reduceAdd, List.setIfInBounds_toArray, List.set_cons_zero, List.set_cons_succ]
            have HEnd : Hid (RM2 w bs bc gc n capc (stt L m (j + 1)) W) := by show RM2 _ _ _ _ _ _ _ _; rw [HS3.out]; exact hW
            clear hW hj3 hWb hpu
            go_wp2
            go_roundw
            case rel => exact ⟨j + 1, by simp, by omega, HEnd.out⟩
            case measure => simp [vnatR]; omega
        · have hkk : j = k := by omega
          subst hkk
          have e0 : stt L m j = m.foldl bst (L, 0) := by unfold stt; rw [List.take_of_length_le (by rw [HN.out]; exact Nat.le_refl _)]
          have HS0 : Hid ((stt L m j).2 = S) := by show _ = S; rw [← HNN.out]; unfold mrs; rw [if_pos HA.out, e0]
          have HM0 : Hid ((stt L m j).1 = M) := by show _ = M; rw [← HMM.out]; unfold mrg; rw [if_pos HA.out, e0, fold_bst]
          obtain rfl : (0 : Int) = E := by rw [← HE.out, if_pos HA.out]
          have h3 : RM3 w bs bc gc n capc (M, S) false false wr := by
            obtain ⟨cur, hc⟩ := hj.row
            have hset := hj.set
            have hnts := hj.nts
            rw [HS0.out] at hset
            rw [HM0.out] at hnts
            exact ⟨hj.b1, hj.b2, hj.bk, ⟨cur, hc⟩, hnts, hset, hj.below⟩
          clear hj e0
          go_wp2
          refine wp_region_any hmx ?_
          refine wpAny_tabG (G := (Unit)) (fun g i__ => ([(.agg #[.slice (some ⟨gc, 0, none⟩) n capc]), (sv S), undef, undef, (Go.Value.int Go.IntKind.i64 0)] : List Value).getD i__ undef) (fun _ d V => RM3 w bs bc gc n capc (M, S) (d 2) (d 3) V) (by kernel_rfl) (()) (show RM3 w bs bc gc n capc (M, S) false false _ from ⟨h3.b1, h3.b2, h3.bk, h3.row, h3.nts, h3.set, h3.below.drew⟩) ?step1 ?fin1
          case step1 =>
            intro i o ho
            have hi : i < 5 := getElem?_lt ho
            match i, hi, ho with
            | 0, _, ho =>
              cases ho
              refine stepG_of (fun g d hdep => ?_)
              exact step_load rfl trivial _ _ _ rfl rfl (fun w hw => load_rbw hw.bk)
            | 1, _, ho =>
              cases ho
              refine stepG_of (fun g d hdep => ?_)
              exact step_load rfl trivial _ _ _ rfl rfl (fun w hw => whole4 w _ S hw.set)
            | 2, _, ho =>
              cases ho
              refine stepG_of (fun g d hdep => ?_)
              exact step_store rfl trivial rfl _ _ _ _ _ rfl rfl rfl (fun w hw => ⟨_, store_rb hw.b1, hw.st1 hsep⟩)
            | 3, _, ho =>
              cases ho
              refine stepG_of (fun g d hdep => ?_)
              exact step_store rfl trivial rfl _ _ _ _ _ rfl rfl rfl (fun w hw => ⟨_, store_set hw.b2, hw.st2 hsep⟩)
            | 4, _, ho =>
              cases ho
              refine stepG_of (fun g d hdep => ?_)
              exact step_assign rfl trivial _ rfl (by kernel_rfl) (fun _ h => h)
          intro g d W hall hW
          first | refine hK _ _ ?_ | refine (‹∀ (a : Act) (w : World), Code.wp Tryz.prog _ _ a w → _›) _ _ ?_ | skip
          simp only [finL, List.getD_cons_zero, List.getD_cons_succ, Nat.zero_add, Nat.reduceAdd, List.setIfInBounds_toArray, List.set_cons_zero, List.set_cons_succ]
          rw [hall 2 (by decide), hall 3 (by decide)] at hW
          clear hall
          go_wp2
          refine retRst (M := S) (x := .int .i64 0) rfl rfl rfl rfl rfl (by simpa using hW.b1) (by simpa using hW.b2) ?_
          obtain ⟨cur, hc⟩ := hW.row
          exact ⟨_, _, rfl, fun _ => ⟨gc, 0, rfl, lt_at hc, hW.nts⟩, hcc, .inr (fun a ha => by obtain rfl := Option.some.inj ha; have := hsep.s3; exact ⟨by simp only; omega, cur, hc⟩), hW.below⟩
theorem rmerge_some {w : World} (ad : Option Addr) (n cap : Nat) (L : List N3) (hL : RdN w ad L) (hn : L.length = n) (h0 : 0 < n) (h1 : n ≤ 100) (hcap : n ≤ cap) (ad2 : Option Addr) (cap2 : Nat) (m : List N3) (hm : RdN w ad2 m) (hl : m.length ≤ 6000000000000) : Calls Tryz.prog 83 #[.agg #[.slice ad n cap], .slice ad2 m.length cap2] w fun e w' => ∃ ad' cap', ∃ (S : Nat) (E : Int), e = .returned (.tuple #[.agg #[.slice ad' n cap'], .agg #[.int .u32 (wd S 0 : Nat), .int .u32 (wd S 1 : Nat), .int .u32 (wd S 2 : Nat), .int .u32 (wd S 3 : Nat)], .int .i64 E]) ∧ RdN w' ad' (mrg L m) ∧ n ≤ cap' ∧ (ad' = ad ∨ ∀ a, ad' = some a → w.heap.size ≤ a.block ∧ ∃ cur, w'.heap[a.block]? = some (.cells cur 62 (0, 0))) ∧ Below w.heap.size w w' :=
  (rMerge_any ad n cap L hL hn h0 h1 hcap ad2 cap2 m hm hl).mono fun _ _ ⟨ad', cap', e, h⟩ => ⟨ad', cap', _, _, e, h⟩
end Go.Proofs.YtojegojeolkgpaaGreat
