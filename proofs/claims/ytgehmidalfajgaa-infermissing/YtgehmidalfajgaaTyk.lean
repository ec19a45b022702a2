/- The document's tally in a world; its Ready, Repliers: what they answer. -/
import Derived.Test.YtgehmidalfajgaaTyj
import Derived.Test.YtgehmidalfajgaaInb
import Derived.Test.YtgehmidalfajgaaRft
import Derived.Test.YtgehmidalfajgaaRfm
namespace Go.Proofs.Ytgehmidalfajgaa
open Go.RowKit Go.Shelf

set_option maxHeartbeats 1000000 in
set_option maxRecDepth 100000 in
theorem rPut_any (N : Nat) (hN : N < 2 ^ 100) (i : Nat) (hi : i < 100) (w : World) : Calls Try.prog 56 #[sv N, .int .i64 (i : Int)] w fun e w' => e = .returned (sv (N ||| 2 ^ i)) ∧ Below w.heap.size w w' := by
  have hw := rWith_any N (i : Int)
  have e3 : withV N (i : Int) = .tuple #[sv (N ||| 2 ^ i), .int .i64 0] := by
    unfold withV
    rw [if_pos (by omega), Int.toNat_natCast, cln_id hN]
  rw [e3] at hw
  clear e3
  generalize N ||| 2 ^ i = N2 at *
  simp only [sv] at hw ⊢
  go_enter Try.func56, Try.ntmps56
  go_wp2_with (go_at_call 57; refine (hw _).mono ?_; rintro e w1 ⟨rfl, hb1⟩; have q : Holds4 w1 (w.heap.size + 1) (fun _ => 0) := (hb1.block _ (by simp)).trans (get_new (by simp)); have hs1 := q.lt; obtain ⟨y0, y1, y2, y3, z0, z1, z2, z3⟩ := q.facts; have H1 : Hid (Holds4 w1 (w.heap.size + 1) (fun _ => 0)) := q; clear q)
  have k5 : Below w.heap.size w ((set4 w1 (w.heap.size + 1) N2).alloc (.cells (cells4 (wd N2)) 24)) := (below4 (bcarry (((Below.refl _ w).alloc (by simp) _).alloc (by simp) _) (Nat.le_refl _) hb1) (by omega) _).alloc (Nat.le_of_lt (Nat.lt_of_le_of_lt (Nat.le_add_right _ _) (Holds4.lt (fin4 H1.out N2)))) _
  exact ret4 rfl rfl rfl (get_old (fin4 H1.out N2)) ⟨rfl, k5⟩
def rfC (n f ro : Int) (H S : Value) : Array Value := #[.int .i64 n, .int .i64 f, .int .i64 ro, H, S]
/-- The document's tally: its block p, its lists. -/
structure Rf (W : World) (base p : Nat) (t : Tl) (ah : Option Addr) (ch : Nat) (az : Option Addr) (cs : Nat) (wh : List Int) : Prop where
  pb : base ≤ p
  obj : W.heap[p]? = some (.cells (rfC t.n (t.n - t.need) t.ro (.slice ah t.hs.length ch) (.slice az t.hs.length cs)) 49 (0, 0))
  ri : W.ownsRow base 3 1 (.slice ah t.hs.length ch) t.hs.length (inV wh)
  rs : W.ownsRow base 24 4 (.slice az t.hs.length cs) t.hs.length (fs t.hs)
  ln : wh.length = t.hs.length
  pos : 0 < t.hs.length
section
variable {w W V : World} {base p ch cs : Nat} {t : Tl} {ah az : Option Addr} {wh : List Int}
theorem Rf.lt (h : Rf W base p t ah ch az cs wh) : p < W.heap.size := lt_at h.obj
theorem Rf.carry (h : Rf W base p t ah ch az cs wh) (hb : Below W.heap.size W V) : Rf V base p t ah ch az cs wh := ⟨h.pb, (hb.block _ h.lt).trans h.obj, row_below h.ri hb, row_below h.rs hb, h.ln, h.pos⟩
theorem Rf.cells (h : Rf W base p t ah ch az cs wh) : W.cell? ⟨p, 0, none⟩ = some (.int .i64 t.n) ∧ W.cell? ⟨p, 1, none⟩ = some (.int .i64 (t.n - t.need)) ∧ W.cell? ⟨p, 2, none⟩ = some (.int .i64 t.ro) ∧ W.cell? ⟨p, 3, none⟩ = some (.slice ah t.hs.length ch) ∧ W.cell? ⟨p, 4, none⟩ = some (.slice az t.hs.length cs) :=
  ⟨cell_at h.obj 0, cell_at h.obj 1, cell_at h.obj 2, cell_at h.obj 3, cell_at h.obj 4⟩
theorem field_r0 (W : World) (q : Nat) : (Instr.fieldAt 49 (.pointer (some ⟨q, 0, none⟩)) 0).run Try.prog W = .ok (.pointer (some ⟨q, 0, none⟩)) W := by go_simp
theorem field_r1 (W : World) (q : Nat) : (Instr.fieldAt 49 (.pointer (some ⟨q, 0, none⟩)) 1).run Try.prog W = .ok (.pointer (some ⟨q, 1, none⟩)) W := by go_simp
theorem field_r2 (W : World) (q : Nat) : (Instr.fieldAt 49 (.pointer (some ⟨q, 0, none⟩)) 2).run Try.prog W = .ok (.pointer (some ⟨q, 2, none⟩)) W := by go_simp
theorem field_r3 (W : World) (q : Nat) : (Instr.fieldAt 49 (.pointer (some ⟨q, 0, none⟩)) 3).run Try.prog W = .ok (.pointer (some ⟨q, 3, none⟩)) W := by go_simp
theorem field_r4 (W : World) (q : Nat) : (Instr.fieldAt 49 (.pointer (some ⟨q, 0, none⟩)) 4).run Try.prog W = .ok (.pointer (some ⟨q, 4, none⟩)) W := by go_simp
theorem load_si {W : World} {B o n c : Nat} {a : Option Addr} (h : W.cell? ⟨B, o, none⟩ = some (.slice a n c)) : (Instr.loadAt 47 (.pointer (some ⟨B, o, none⟩))).run Try.prog W = .ok (.slice a n c) W := by go_simp
theorem load_ss {W : World} {B o n c : Nat} {a : Option Addr} (h : W.cell? ⟨B, o, none⟩ = some (.slice a n c)) : (Instr.loadAt 43 (.pointer (some ⟨B, o, none⟩))).run Try.prog W = .ok (.slice a n c) W := by go_simp
set_option maxHeartbeats 4000000 in
set_option maxRecDepth 100000 in
theorem rReady_any (h : Rf W base p t ah ch az cs wh) (hv : Tv t) : Calls Try.prog 41 #[.pointer (some ⟨p, 0, none⟩)] W fun e w' => e = .returned (.bool (rdy t)) ∧ Below W.heap.size W w' := by
  have hmx : Try.prog.follows .mixedOrders = true := by kernel_rfl
  have hpos := h.pos
  have hlen := hv.len
  have hd1 := hv.d1
  have hn1 := hv.n1
  have hn : 0 < t.n := by omega
  have hsub := i64_id (t.n - (t.n - t.need)) (by omega) (by omega)
  have hr : decide ((t.hs.length : Int) ≥ t.n - (t.n - t.need)) = rdy t := by
    unfold rdy
    exact decide_eq_decide.2 ⟨fun e => ⟨by omega, by omega⟩, fun e => by omega⟩
  go_enter Try.func41, Try.ntmps41
  go_wp2
  rename_i hK
  refine wp_region_any hmx ?_
  refine wpAny_pure (fun i__ => ([(.pointer (some ⟨p, 0, none⟩)), (.pointer (some ⟨p, 0, none⟩)), (.pointer (some ⟨p, 0, none⟩)), (.int .i64 t.n), (.bool true), (.bool true), (.pointer (some ⟨p, 0, none⟩)), (.pointer (some ⟨p, 0, none⟩)), (.pointer (some ⟨p, 3, none⟩)), (.slice ah t.hs.length ch), (.int .i64 (t.hs.length : Int)), (.pointer (some ⟨p, 0, none⟩)), (.pointer (some ⟨p, 0, none⟩)), (.pointer (some ⟨p, 0, none⟩)), (.int .i64 t.n), (.pointer (some ⟨p, 0, none⟩)), (.pointer (some ⟨p, 0, none⟩)), (.pointer (some ⟨p, 1, none⟩)), (.int .i64 (t.n - t.need)), (.int .i64 (t.n - (t.n - t.need))), (.bool (rdy t)), (.bool (rdy t)), (.bool (rdy t))] : List Value).getD i__ undef) (fun V => Below W.heap.size W V) (by kernel_rfl) (Below.refl _ _).drew ?_ ?_
  · refine (stepsFrom_cons ?_ (stepsFrom_cons ?_ (stepsFrom_cons ?_ (stepsFrom_cons ?_ (stepsFrom_cons ?_ (stepsFrom_cons ?_ (stepsFrom_cons ?_ (stepsFrom_cons ?_ (stepsFrom_cons ?_ (stepsFrom_cons ?_ (stepsFrom_cons ?_ (stepsFrom_cons ?_ (stepsFrom_cons ?_ (stepsFrom_cons ?_ (stepsFrom_cons ?_ (stepsFrom_cons ?_ (stepsFrom_cons ?_ (stepsFrom_cons ?_ (stepsFrom_cons ?_ (stepsFrom_cons ?_ (stepsFrom_cons ?_ (stepsFrom_cons ?_ (stepsFrom_cons ?_ trivial)))))))))))))))))))))))
    · exact step_move rfl trivial _ rfl (by kernel_rfl)
    · exact step_nilCheck rfl trivial _ _ _ rfl rfl rfl
    · exact step_fieldAddr rfl trivial _ _ _ _ rfl rfl (fun v hw => field_r0 v _)
    · exact step_load rfl trivial _ _ _ rfl rfl (fun v hw => load_i64 (h.carry hw).cells.1)
    · exact step_binOp rfl trivial _ _ _ _ _ _ _ rfl rfl rfl (fun v hw => (bin_gtr .i64 _ _).trans (by simp [hn]))
    · exact step_move rfl trivial _ rfl (by kernel_rfl)
    · exact step_move rfl (by exact ⟨_, rfl, by kernel_rfl⟩) _ rfl (by kernel_rfl)
    · exact step_nilCheck rfl (by exact ⟨_, rfl, by kernel_rfl⟩) _ _ _ rfl rfl rfl
    · exact step_fieldAddr rfl (by exact ⟨_, rfl, by kernel_rfl⟩) _ _ _ _ rfl rfl (fun v hw => field_r3 v _)
    · exact step_load rfl (by exact ⟨_, rfl, by kernel_rfl⟩) _ _ _ rfl rfl (fun v hw => load_si (h.carry hw).cells.2.2.2.1)
    · exact step_bi rfl (by exact ⟨_, rfl, by kernel_rfl⟩) _ _ _ [(.slice ah t.hs.length ch)] rfl (by kernel_rfl) (fun cs v hw => bi_lenI _ cs _ _ _ v)
    · exact step_move rfl (by exact ⟨_, rfl, by kernel_rfl⟩) _ rfl (by kernel_rfl)
    · exact step_nilCheck rfl (by exact ⟨_, rfl, by kernel_rfl⟩) _ _ _ rfl rfl rfl
    · exact step_fieldAddr rfl (by exact ⟨_, rfl, by kernel_rfl⟩) _ _ _ _ rfl rfl (fun v hw => field_r0 v _)
    · exact step_load rfl (by exact ⟨_, rfl, by kernel_rfl⟩) _ _ _ rfl rfl (fun v hw => load_i64 (h.carry hw).cells.1)
    · exact step_move rfl (by exact ⟨_, rfl, by kernel_rfl⟩) _ rfl (by kernel_rfl)
    · exact step_nilCheck rfl (by exact ⟨_, rfl, by kernel_rfl⟩) _ _ _ rfl rfl rfl
    · exact step_fieldAddr rfl (by exact ⟨_, rfl, by kernel_rfl⟩) _ _ _ _ rfl rfl (fun v hw => field_r1 v _)
    · exact step_load rfl (by exact ⟨_, rfl, by kernel_rfl⟩) _ _ _ rfl rfl (fun v hw => load_i64 (h.carry hw).cells.2.1)
    · exact step_binOp rfl (by exact ⟨_, rfl, by kernel_rfl⟩) _ _ _ _ _ _ _ rfl rfl rfl (fun v hw => bin_sub64 _ _ _ hsub)
    · exact step_binOp rfl (by exact ⟨_, rfl, by kernel_rfl⟩) _ _ _ _ _ _ _ rfl rfl rfl (fun v hw => (bin_geq .i64 _ _).trans (congrArg (fun b => Result.ok (Value.bool b) v) hr))
    · exact step_pick rfl trivial _ _ _ true rfl (by kernel_rfl) (by kernel_rfl)
    · exact step_assign rfl trivial _ rfl (by kernel_rfl) (fun _ h => h)
  intro W hW
  first | refine hK _ _ ?_ | refine (‹∀ (a : Act) (w : World), Code.wp Try.prog _ _ a w → _›) _ _ ?_
  simp only [finL, List.getD_cons_zero, List.getD_cons_succ, Nat.zero_add, Nat.reduceAdd, List.setIfInBounds_toArray, List.set_cons_zero, List.set_cons_succ]
  clear hK
  go_wp2
  go_ret
  exact ⟨rfl, hW⟩
theorem inV_at {W : World} {base n c : Nat} {a : Option Addr} {l : List Int} (h : W.ownsRow base 3 1 (.slice a n c) n (inV l)) {k : Nat} {x : Int} (hk : l[k]? = some x) (hn : l.length = n) : ∃ b, a = some ⟨b, 0, none⟩ ∧ b < W.heap.size ∧ W.cell? ⟨b, k, none⟩ = some (.int .i64 x) := by
  have hlt : k < l.length := (List.getElem?_eq_some_iff.1 hk).1
  rcases own_form h with ⟨_, e2⟩ | ⟨g, cap, e1, _, h3, _⟩
  · omega
  · simp only [Value.slice.injEq] at e1
    obtain ⟨rfl, _, rfl⟩ := e1
    exact ⟨g, rfl, h3, (h.cellAt k (by omega)).trans (by simp [inV, hk])⟩
theorem idx_i (g off n cap k : Nat) (h : k < n) (w : World) : (Instr.indexAt 47 (.slice (some ⟨g, off, none⟩) n cap) (.int .i64 (k : Int))).run Try.prog w = .ok (.pointer (some ⟨g, off + k, none⟩)) w := by
  have h1 : (k : Int) < (n : Int) := by omega
  go_simp
theorem ofN_take : ∀ (l : List Int) (N : Nat) (R : Nat), ofN l N = some R → ∀ k, ∃ M, ofN (l.take k) N = some M ∧ (N < S100 → M < S100) ∧ ∀ x, l[k]? = some x → (0 ≤ x ∧ x < 100) ∧ ofN (l.take (k + 1)) N = some (M ||| 2 ^ x.toNat)
  | [], N, R, h, k => ⟨N, by simp [ofN], fun h => h, fun x hx => by simp at hx⟩
  | j :: l, N, R, h, k => by
    have hj : 0 ≤ j ∧ j < 100 := by
      by_cases q : 0 ≤ j ∧ j < 100
      · exact q
      · simp [ofN, q] at h
    have h' : ofN l (N ||| 2 ^ j.toNat) = some R := by simpa [ofN, hj] using h
    cases k with
    | zero => exact ⟨N, rfl, fun h => h, fun x hx => by
        simp at hx
        subst hx
        exact ⟨hj, by simp [ofN, hj]⟩⟩
    | succ k =>
      obtain ⟨M, h1, h2, h3⟩ := ofN_take l _ R h' k
      refine ⟨M, by simp [ofN, hj, h1], fun q => h2 (or_S100 q (pow_S100 (by omega))), fun x hx => ?_⟩
      obtain ⟨a, b⟩ := h3 x (by simpa using hx)
      exact ⟨a, by simp [ofN, hj, b]⟩
set_option maxHeartbeats 4000000 in
set_option maxRecDepth 100000 in
theorem rReps_any (h : Rf w base p t ah ch az cs wh) (hc : Cw t wh) (hv : Tv t) : Calls Try.prog 44 #[.pointer (some ⟨p, 0, none⟩)] w fun e w' => e = .returned (sv t.reps) ∧ Below w.heap.size w w' := by
  have hmx : Try.prog.follows .mixedOrders = true := by kernel_rfl
  obtain ⟨w1, hw1⟩ : ∃ w1, (w.alloc (.cells #[.int .u32 0, .int .u32 0, .int .u32 0, .int .u32 0] 24)).alloc (.cells #[.int .u32 0, .int .u32 0, .int .u32 0, .int .u32 0] 24) = w1 := ⟨_, rfl⟩
  have hb1 : Below w.heap.size w w1 := by rw [← hw1]; exact bel2 (al1' _ _) (al1' _ _)
  have g1 : Holds4 w1 w.heap.size (fun _ => 0) := by rw [← hw1]; exact old_at (new_at rfl)
  have g2 : Holds4 w1 (w.heap.size + 1) (wd 0) := by
    have e : wd 0 = fun _ => 0 := by funext j; exact wd_zero j
    rw [← hw1, e]
    exact new_at (by simp)
  obtain ⟨nn, hnn⟩ : ∃ nn, t.hs.length = nn := ⟨_, rfl⟩
  have hln := h.ln
  rw [hnn] at hln
  have hlen := hv.len
  have hd1 := hv.d1
  have hn1 := hv.n1
  go_enter Try.func44, Try.ntmps44
  go_wp2
  go_loopw [4] (fun c wz => ∃ (k M : Nat), c = .int .i64 k ∧ k ≤ nn ∧ ofN (wh.take k) 0 = some M ∧ Holds4 wz w.heap.size (fun _ => 0) ∧ Holds4 wz (w.heap.size + 1) (wd M) ∧ Below w.heap.size w wz) (fun c _ => nn - vnat c)
  case atStart => exact ⟨0, 0, rfl, by omega, rfl, g1, g2, hb1⟩
  case round =>
    obtain ⟨k, M, rfl, hk, hM, h1, h2, hb⟩ := hrel
    have hR := h.carry hb
    obtain ⟨_, _, _, c3, _⟩ := hR.cells
    rw [hnn] at c3
    by_cases hkl : k < nn
    · have hki : (k : Int) < (nn : Int) := by omega
      obtain ⟨x, hx⟩ : ∃ x, wh[k]? = some x := ⟨_, List.getElem?_eq_getElem (by omega)⟩
      obtain ⟨M', hM', hlt, hst⟩ := ofN_take wh 0 t.reps hc.of k
      obtain rfl : M' = M := by rw [hM] at hM'; exact (Option.some.inj hM').symm
      obtain ⟨hx1, hx2⟩ := hst x hx
      have hM1 : M' < S100 := hlt (by decide)
      obtain ⟨b, rfl, hbl, cx⟩ := inV_at hR.ri hx h.ln
      have hput : ∀ V : World, Calls Try.prog 56 #[sv M', .int .i64 x] V fun e w' => e = .returned (sv (M' ||| 2 ^ x.toNat)) ∧ Below V.heap.size V w' := fun V => by
        have := rPut_any M' hM1 x.toNat (by omega) V
        rw [Int.toNat_of_nonneg hx1.1] at this
        exact this
      go_wp2
      refine wp_region_any hmx ?_
      refine wpAny_last 9 (fun i__ => ([(sv M'), (.pointer (some ⟨p, 0, none⟩)), (.pointer (some ⟨p, 0, none⟩)), (.pointer (some ⟨p, 3, none⟩)), (.slice (some ⟨b, 0, none⟩) nn ch), (.int .i64 (k : Int)), (.pointer (some ⟨b, 0 + k, none⟩)), (.int .i64 x), (sv (M' ||| 2 ^ x.toNat)), undef] : List Value).getD i__ undef) (fun V => Below wr.heap.size wr V) (fun V => Holds4 V w.heap.size (fun _ => 0) ∧ Holds4 V (w.heap.size + 1) (wd (M' ||| 2 ^ x.toNat)) ∧ Below w.heap.size w V) rfl (by kernel_rfl) (by kernel_rfl) (Below.refl _ _).drew ?_ ?_  ?_
      · refine (stepsFrom_cons ?_ (stepsFrom_cons ?_ (stepsFrom_cons ?_ (stepsFrom_cons ?_ (stepsFrom_cons ?_ (stepsFrom_cons ?_ (stepsFrom_cons ?_ (stepsFrom_cons ?_ (stepsFrom_cons ?_ trivial)))))))))
        · exact step_load rfl trivial _ _ _ rfl rfl (fun v hw => whole4 v _ M' (h2.carry hw))
        · exact step_move rfl trivial _ rfl (by kernel_rfl)
        · exact step_nilCheck rfl trivial _ _ _ rfl rfl rfl
        · exact step_fieldAddr rfl trivial _ _ _ _ rfl rfl (fun v hw => field_r3 v _)
        · exact step_load rfl trivial _ _ _ rfl rfl (fun v hw => load_si (by have := (hR.carry hw).cells.2.2.2.1; rw [hnn] at this; exact this))
        · exact step_move rfl trivial _ rfl (by kernel_rfl)
        · exact step_indexAddr rfl trivial _ _ _ _ _ rfl rfl rfl (fun v hw => idx_i b 0 _ _ k hkl v)
        · exact step_load rfl trivial _ _ _ rfl rfl (fun v hw => load_i64 (by rw [Nat.zero_add]; exact (World.cell?_of_block (a := ⟨b, k, none⟩) (hw.block _ hbl)).trans cx))
        · exact step_call rfl trivial 56 _ _ [(sv M'), (.int .i64 x)] rfl (by kernel_rfl) (enters_of Try.func56 (by kernel_rfl) rfl) (fun v hw => (hput v).mono (by rintro e w2 ⟨rfl, hb2⟩; exact ⟨rfl, bel2 hw hb2⟩))
      · intro o ho
        cases ho
        exact step_store rfl trivial rfl _ _ _ _ _ rfl rfl rfl (fun v hw => ⟨set4 v (w.heap.size + 1) (M' ||| 2 ^ x.toNat), store_s (h2.carry hw) _, (hold4 (by omega)).trans (h1.carry hw), fin4 (h2.carry hw) _, below4 (bel2 hb hw) (by omega) _⟩)
      intro W hW
      first | refine hK _ _ ?_ | refine (‹∀ (a : Act) (w : World), Code.wp Try.prog _ _ a w → _›) _ _ ?_
      simp only [finL, List.getD_cons_zero, List.getD_cons_succ, Nat.zero_add, Nat.reduceAdd, List.setIfInBounds_toArray, List.set_cons_zero, List.set_cons_succ]
      obtain ⟨hW1, hW2, hW3⟩ := hW
      go_wp2
      go_roundw
      case rel => exact ⟨k + 1, _, by simp, by omega, hx2, hW1, hW2, hW3⟩
      case measure => simp [vnat]; omega
    · have hkk : k = nn := by omega
      subst hkk
      have hki : ¬ ((k : Int) < (k : Int)) := by omega
      rw [List.take_of_length_le (by omega), hc.of] at hM
      obtain rfl := Option.some.inj hM
      obtain ⟨y0, y1, y2, y3, z0, z1, z2, z3⟩ := h1.facts
      obtain ⟨x0, x1, x2, x3, _⟩ := h2.facts
      have H1 : Hid (Holds4 wr w.heap.size (fun _ => 0)) := h1
      clear h1 h2
      go_wp2
      exact ret4 rfl rfl rfl (fin4 H1.out _) ⟨rfl, below4 hb (Nat.le_refl _) _⟩
end
end Go.Proofs.Ytgehmidalfajgaa
