/- The document's Known, Missing: what they answer. -/
import Derived.Test.YtgehmidalfajgaaTym
import Derived.Test.YtgehmidalfajgaaTyq
namespace Go.Proofs.Ytgehmidalfajgaa
open Go.RowKit Go.Shelf

theorem wd0f : wd 0 = fun _ => 0 := by funext j; exact wd_zero j
set_option maxHeartbeats 1000000 in
set_option maxRecDepth 100000 in
theorem rAll_any (n : Int) (h0 : 0 ≤ n) (h1 : n ≤ 100) (w : World) : Calls Try.prog 43 #[.int .i64 n] w fun e w' => e = .returned (sv (fullN n.toNat)) ∧ Below w.heap.size w w' := by
  have hf := rFull_any n
  rw [show fullV n = .tuple #[sv (fullN n.toNat), .int .i64 0] from if_pos ⟨h0, h1⟩] at hf
  generalize fullN n.toNat = M at *
  obtain ⟨w1, hw1⟩ : ∃ w1, w.alloc (.cells #[.int .u32 0, .int .u32 0, .int .u32 0, .int .u32 0] 24) = w1 := ⟨_, rfl⟩
  have hb1 : Below w.heap.size w w1 := by rw [← hw1]; exact al1' _ _
  have g1 : Holds4 w1 w.heap.size (fun _ => 0) := by rw [← hw1]; exact new_at rfl
  simp only [sv] at hf ⊢
  go_enter Try.func43, Try.ntmps43
  go_wp2_with (first
    | (go_at_call 55; (with_reducible refine (hf _).mono ?_); rintro e u ⟨rfl, hb2⟩; obtain ⟨u3, hu3⟩ : ∃ u3, u.alloc (.cells #[.int .u32 0, .int .u32 0, .int .u32 0, .int .u32 0] 24) = u3 := ⟨_, rfl⟩; have k1 : Hid (Holds4 u3 u.heap.size (fun _ => 0)) := (by rw [← hu3]; exact new_at rfl); have k2 : Hid (Holds4 u3 w.heap.size (fun _ => 0)) := (by rw [← hu3]; exact old_at (g1.carry hb2)); have k3 : Hid (Below w.heap.size w u3) := (by rw [← hu3]; exact bel2 (bel2 hb1 hb2) (al1' _ _)); have k4 : w.heap.size < u.heap.size := Nat.lt_of_lt_of_le g1.lt hb2.size)
    | (refine wpList_store_row rfl 24 (.tmp 3) (.tmp 8) rfl u.heap.size (cells4 (wd M)) rfl rfl 24 _ k1.out infoS rfl (by simp [cells4, Value.oneCell']) ?_; obtain ⟨w4, hw4⟩ : ∃ v, u3.setRow u.heap.size (cells4 (wd M)) = v := ⟨_, rfl⟩; have j1 : Hid (Holds4 w4 u.heap.size (wd M)) := (by rw [← hw4]; exact setRow_heap _ _ _ _ _ _ k1.out); have j2 : Hid (Holds4 w4 w.heap.size (fun _ => 0)) := (by rw [← hw4]; exact hold_row k2.out (by omega) _); have j3 : Hid (Below w.heap.size w w4) := (by rw [← hw4]; exact below_row k3.out (by omega) _); rw [hw4])
    | (refine wpList_load_row rfl 24 (.tmp 3) rfl u.heap.size rfl 24 _ (0, 0) _ j1.out Try.underlying24 rfl infoS ?_)
    | (refine wpList_store_row rfl 24 (.tmp 2) (.tmp 10) rfl w.heap.size (cells4 (wd M)) rfl rfl 24 _ j2.out infoS rfl (by simp [cells4, Value.oneCell']) ?_; obtain ⟨w6, hw6⟩ : ∃ v, w4.setRow w.heap.size (cells4 (wd M)) = v := ⟨_, rfl⟩; have g6 : Hid (Holds4 w6 w.heap.size (wd M)) := (by rw [← hw6]; exact setRow_heap _ _ _ _ _ _ j2.out); have hb6 : Hid (Below w.heap.size w w6) := (by rw [← hw6]; exact below_row j3.out (Nat.le_refl _) _); rw [hw6]))
  exact ret4 rfl rfl rfl g6.out ⟨rfl, hb6.out⟩
section
variable {w W V : World} {base p ch cs : Nat} {t : Tl} {ah az : Option Addr} {wh : List Int}
set_option maxHeartbeats 4000000 in
set_option maxRecDepth 100000 in
/-- Known, where Repliers tells R and the sets are hs. -/
theorem rKnown_of (R : Nat) (hs : List Nat) (C : Array Value) (hobj : w.heap[p]? = some (.cells C 49 (0, 0))) (hc : C[4]? = some (.slice az hs.length cs)) (hrd : RdS w az hs) (hl : hs.length ≤ 4611686018427387904)
    (hre : ∀ V, Below w.heap.size w V → Calls Try.prog 44 #[.pointer (some ⟨p, 0, none⟩)] V fun e w' => e = .returned (sv R) ∧ Below V.heap.size V w') :
    Calls Try.prog 22 #[.pointer (some ⟨p, 0, none⟩)] w fun e w' => e = .returned (sv (unis R hs)) ∧ Below w.heap.size w w' := by
  have hmx : Try.prog.follows .mixedOrders = true := by kernel_rfl
  obtain ⟨w1, hw1⟩ : ∃ w1, w.alloc (.cells #[.int .u32 0, .int .u32 0, .int .u32 0, .int .u32 0] 24) = w1 := ⟨_, rfl⟩
  have hb1 : Below w.heap.size w w1 := by rw [← hw1]; exact al1' _ _
  have g1 : Holds4 w1 w.heap.size (fun _ => 0) := by rw [← hw1]; exact new_at rfl
  have hr := hre w1 hb1
  obtain ⟨KK, hKK⟩ : ∃ KK, unis R hs = KK := ⟨_, rfl⟩
  rw [hKK]
  have hcell : ∀ V, Below w.heap.size w V → V.cell? ⟨p, 4, none⟩ = some (.slice az hs.length cs) := fun V hV => ((World.cell?_of_block (a := ⟨p, 4, none⟩) (hV.block _ (lt_at hobj))).trans (cell_at hobj 4)).trans hc
  clear hre
  simp only [sv] at hr ⊢
  go_enter Try.func22, Try.ntmps22
  go_wp2_with (first
    | (go_at_call 44; (with_reducible refine hr.mono ?_); rintro e u ⟨rfl, hb2⟩; obtain ⟨u3, hu3⟩ : ∃ u3, u.alloc (.cells #[.int .u32 0, .int .u32 0, .int .u32 0, .int .u32 0] 24) = u3 := ⟨_, rfl⟩; have k1 : Hid (Holds4 u3 u.heap.size (fun _ => 0)) := (by rw [← hu3]; exact new_at rfl); have k2 : Hid (Holds4 u3 w.heap.size (fun _ => 0)) := (by rw [← hu3]; exact old_at (g1.carry hb2)); have k3 : Hid (Below w.heap.size w u3) := (by rw [← hu3]; exact bel2 (bel2 hb1 hb2) (al1' _ _)); have k4 : w.heap.size < u.heap.size := Nat.lt_of_lt_of_le g1.lt hb2.size)
    | (refine wpList_store_row rfl 24 (.tmp 3) (.tmp 6) rfl u.heap.size (cells4 (wd R)) rfl rfl 24 _ k1.out infoS rfl (by simp [cells4, Value.oneCell']) ?_; obtain ⟨w4, hw4⟩ : ∃ v, u3.setRow u.heap.size (cells4 (wd R)) = v := ⟨_, rfl⟩; have j1 : Hid (Holds4 w4 u.heap.size (wd R)) := (by rw [← hw4]; exact setRow_heap _ _ _ _ _ _ k1.out); have j2 : Hid (Holds4 w4 w.heap.size (fun _ => 0)) := (by rw [← hw4]; exact hold_row k2.out (by omega) _); have j3 : Hid (Below w.heap.size w w4) := (by rw [← hw4]; exact below_row k3.out (by omega) _); rw [hw4]))
  obtain ⟨Bs, hBs⟩ : ∃ Bs, u.heap.size = Bs := ⟨_, rfl⟩
  rw [hBs] at k4 j1 ⊢
  clear k1 k2 k3 hw4 hu3 hr hw1
  go_loopw [4] (fun c wz => ∃ (k : Nat), c = .int .i64 k ∧ k ≤ hs.length ∧ Holds4 wz w.heap.size (fun _ => 0) ∧ Holds4 wz Bs (wd (unis R (hs.take k))) ∧ Below w.heap.size w wz) (fun c _ => hs.length - vnat c)
  case atStart => exact ⟨0, rfl, by omega, j2.out, j1.out, j3.out⟩
  case round =>
    obtain ⟨k, rfl, hk, h1, h2, hb⟩ := hrel
    have c4 := hcell wr hb
    by_cases hkl : k < hs.length
    · have hki : (k : Int) < (hs.length : Int) := by omega
      have hne : hs ≠ [] := fun e => by subst e; simp at hkl
      obtain ⟨b, off, rfl, hgl, hat⟩ := hrd hne
      obtain ⟨x, hx⟩ : ∃ x, hs[k]? = some x := ⟨_, List.getElem?_eq_getElem hkl⟩
      have hes := unis_succ R hs k x hx
      generalize unis R (hs.take k) = M at *
      go_wp2
      refine wp_region_any hmx ?_
      refine wpAny_last 9 (fun i__ => ([(sv M), (.pointer (some ⟨p, 0, none⟩)), (.pointer (some ⟨p, 0, none⟩)), (.pointer (some ⟨p, 4, none⟩)), (.slice (some ⟨b, off, none⟩) hs.length cs), (.int .i64 (k : Int)), (.pointer (some ⟨b, off + k * 4, none⟩)), (sv x), (sv (cln (M ||| x))), undef] : List Value).getD i__ undef) (fun V => Below wr.heap.size wr V) (fun V => Holds4 V w.heap.size (fun _ => 0) ∧ Holds4 V Bs (wd (cln (M ||| x))) ∧ Below w.heap.size w V) rfl (by kernel_rfl) (by kernel_rfl) (Below.refl _ _).drew ?_ ?_  ?_
      · refine (stepsFrom_cons ?_ (stepsFrom_cons ?_ (stepsFrom_cons ?_ (stepsFrom_cons ?_ (stepsFrom_cons ?_ (stepsFrom_cons ?_ (stepsFrom_cons ?_ (stepsFrom_cons ?_ (stepsFrom_cons ?_ trivial)))))))))
        · exact step_load rfl trivial _ _ _ rfl rfl (fun v hw => whole4 v _ M (h2.carry hw))
        · exact step_move rfl trivial _ rfl (by kernel_rfl)
        · exact step_nilCheck rfl trivial _ _ _ rfl rfl rfl
        · exact step_fieldAddr rfl trivial _ _ _ _ rfl rfl (fun v hw => field_r4 v _)
        · exact step_load rfl trivial _ _ _ rfl rfl (fun v hw => load_ss (hcell v (bel2 hb hw)))
        · exact step_move rfl trivial _ rfl (by kernel_rfl)
        · exact step_indexAddr rfl trivial _ _ _ _ _ rfl rfl rfl (fun v hw => idx_s b off _ _ k hkl v)
        · exact step_load rfl trivial _ _ _ rfl rfl (fun v hw => load_sk (hat.carry ((bel2 hb hw).block _ hgl)) hx)
        · exact step_call rfl trivial 39 _ _ [(sv M), (sv x)] rfl (by kernel_rfl) (enters_of Try.func39 (by kernel_rfl) rfl) (fun w hw => (rUnion_any M x w).mono (by rintro e w' ⟨rfl, hb⟩; exact ⟨rfl, bel2 hw hb⟩))
      · intro o ho
        cases ho
        exact step_store rfl trivial rfl _ _ _ _ _ rfl rfl rfl (fun v hw => ⟨set4 v Bs (cln (M ||| x)), store_s (h2.carry hw) _, (hold4 (by omega)).trans (h1.carry hw), fin4 (h2.carry hw) _, below4 (bel2 hb hw) (by omega) _⟩)
      intro W hW
      first | refine hK _ _ ?_ | refine (‹∀ (a : Act) (w : World), Code.wp Try.prog _ _ a w → _›) _ _ ?_
      simp only [finL, List.getD_cons_zero, List.getD_cons_succ, Nat.zero_add, Nat.reduceAdd, List.setIfInBounds_toArray, List.set_cons_zero, List.set_cons_succ]
      obtain ⟨hW1, hW2, hW3⟩ := hW
      go_wp2
      go_roundw
      case rel => exact ⟨k + 1, by simp, by omega, hW1, by rw [hes]; exact hW2, hW3⟩
      case measure => simp [vnat]; omega
    · have hkk : k = hs.length := by omega
      subst hkk
      have hki : ¬ ((hs.length : Int) < (hs.length : Int)) := by omega
      rw [List.take_length, hKK] at h2
      obtain ⟨y0, y1, y2, y3, z0, z1, z2, z3⟩ := h1.facts
      obtain ⟨x0, x1, x2, x3, _⟩ := h2.facts
      have H1 : Hid (Holds4 wr w.heap.size (fun _ => 0)) := h1
      clear h1 h2
      go_wp2
      exact ret4 rfl rfl rfl (fin4 H1.out _) ⟨rfl, below4 hb (Nat.le_refl _) _⟩
theorem rKnown_any (h : Rf w base p t ah ch az cs wh) (hc : Cw t wh) (hv : Tv t) : Calls Try.prog 22 #[.pointer (some ⟨p, 0, none⟩)] w fun e w' => e = .returned (sv (kn t)) ∧ Below w.heap.size w w' := by
  have hl : t.hs.length ≤ 100 := by have := hv.len; have := hv.d1; have := hv.n1; omega
  exact rKnown_of t.reps t.hs _ h.obj rfl (RdS.own h.rs) (by omega) (fun _ hV => rReps_any (h.carry hV) hc hv)
set_option maxHeartbeats 4000000 in
set_option maxRecDepth 100000 in
theorem rReady_zero (h : w.heap[p]? = some (.cells z5 49 (0, 0))) : Calls Try.prog 41 #[.pointer (some ⟨p, 0, none⟩)] w fun e w' => e = .returned (.bool false) ∧ Below w.heap.size w w' := by
  have hmx : Try.prog.follows .mixedOrders = true := by kernel_rfl
  have hc : ∀ V, Below w.heap.size w V → V.cell? ⟨p, 0, none⟩ = some (.int .i64 0) := fun V hV => (World.cell?_of_block (a := ⟨p, 0, none⟩) (hV.block _ (lt_at h))).trans (cell_at h 0)
  go_enter Try.func41, Try.ntmps41
  go_wp2
  rename_i hK
  refine wp_region_any hmx ?_
  refine wpAny_pure (fun i__ => ([(.pointer (some ⟨p, 0, none⟩)), (.pointer (some ⟨p, 0, none⟩)), (.pointer (some ⟨p, 0, none⟩)), (.int .i64 0), (.bool false), (.bool false), undef, undef, undef, undef, undef, undef, undef, undef, undef, undef, undef, undef, undef, undef, undef, (.bool false), (.bool false)] : List Value).getD i__ undef) (fun V => Below w.heap.size w V) (by kernel_rfl) (Below.refl _ _).drew ?_ ?_
  · refine (stepsFrom_cons ?_ (stepsFrom_cons ?_ (stepsFrom_cons ?_ (stepsFrom_cons ?_ (stepsFrom_cons ?_ (stepsFrom_cons ?_ (stepsFrom_cons ?_ (stepsFrom_cons ?_ (stepsFrom_cons ?_ (stepsFrom_cons ?_ (stepsFrom_cons ?_ (stepsFrom_cons ?_ (stepsFrom_cons ?_ (stepsFrom_cons ?_ (stepsFrom_cons ?_ (stepsFrom_cons ?_ (stepsFrom_cons ?_ (stepsFrom_cons ?_ (stepsFrom_cons ?_ (stepsFrom_cons ?_ (stepsFrom_cons ?_ (stepsFrom_cons ?_ (stepsFrom_cons ?_ trivial)))))))))))))))))))))))
    · exact step_move rfl trivial _ rfl (by kernel_rfl)
    · exact step_nilCheck rfl trivial _ _ _ rfl rfl rfl
    · exact step_fieldAddr rfl trivial _ _ _ _ rfl rfl (fun v hw => field_r0 v _)
    · exact step_load rfl trivial _ _ _ rfl rfl (fun v hw => load_i64 (hc v hw))
    · exact step_binOp rfl trivial _ _ _ _ _ _ _ rfl rfl rfl (fun v hw => (bin_gtr .i64 _ _).trans (by simp))
    · exact step_move rfl trivial _ rfl (by kernel_rfl)
    · exact step_skip rfl 5 true 8 (.bool false) rfl rfl (by kernel_rfl) (by intro h; cases h) rfl
    · exact step_skip rfl 5 true 8 (.bool false) rfl rfl (by kernel_rfl) (by intro h; cases h) rfl
    · exact step_skip rfl 5 true 8 (.bool false) rfl rfl (by kernel_rfl) (by intro h; cases h) rfl
    · exact step_skip rfl 5 true 8 (.bool false) rfl rfl (by kernel_rfl) (by intro h; cases h) rfl
    · exact step_skip rfl 5 true 8 (.bool false) rfl rfl (by kernel_rfl) (by intro h; cases h) rfl
    · exact step_skip rfl 5 true 8 (.bool false) rfl rfl (by kernel_rfl) (by intro h; cases h) rfl
    · exact step_skip rfl 5 true 8 (.bool false) rfl rfl (by kernel_rfl) (by intro h; cases h) rfl
    · exact step_skip rfl 5 true 8 (.bool false) rfl rfl (by kernel_rfl) (by intro h; cases h) rfl
    · exact step_skip rfl 5 true 8 (.bool false) rfl rfl (by kernel_rfl) (by intro h; cases h) rfl
    · exact step_skip rfl 5 true 8 (.bool false) rfl rfl (by kernel_rfl) (by intro h; cases h) rfl
    · exact step_skip rfl 5 true 8 (.bool false) rfl rfl (by kernel_rfl) (by intro h; cases h) rfl
    · exact step_skip rfl 5 true 8 (.bool false) rfl rfl (by kernel_rfl) (by intro h; cases h) rfl
    · exact step_skip rfl 5 true 8 (.bool false) rfl rfl (by kernel_rfl) (by intro h; cases h) rfl
    · exact step_skip rfl 5 true 8 (.bool false) rfl rfl (by kernel_rfl) (by intro h; cases h) rfl
    · exact step_skip rfl 5 true 8 (.bool false) rfl rfl (by kernel_rfl) (by intro h; cases h) rfl
    · exact step_pick rfl trivial _ _ _ false rfl (by kernel_rfl) (by kernel_rfl)
    · exact step_assign rfl trivial _ rfl (by kernel_rfl) (fun _ h => h)
  intro W hW
  first | refine hK _ _ ?_ | refine (‹∀ (a : Act) (w : World), Code.wp Try.prog _ _ a w → _›) _ _ ?_
  simp only [finL, List.getD_cons_zero, List.getD_cons_succ, Nat.zero_add, Nat.reduceAdd, List.setIfInBounds_toArray, List.set_cons_zero, List.set_cons_succ]
  clear hK
  go_wp2
  go_ret
  exact ⟨rfl, hW⟩
set_option maxHeartbeats 4000000 in
set_option maxRecDepth 100000 in
theorem rReps_zero (h : w.heap[p]? = some (.cells z5 49 (0, 0))) : Calls Try.prog 44 #[.pointer (some ⟨p, 0, none⟩)] w fun e w' => e = .returned (sv 0) ∧ Below w.heap.size w w' := by
  obtain ⟨w1, hw1⟩ : ∃ w1, (w.alloc (.cells #[.int .u32 0, .int .u32 0, .int .u32 0, .int .u32 0] 24)).alloc (.cells #[.int .u32 0, .int .u32 0, .int .u32 0, .int .u32 0] 24) = w1 := ⟨_, rfl⟩
  have hb1 : Below w.heap.size w w1 := by rw [← hw1]; exact bel2 (al1' _ _) (al1' _ _)
  have g1 : Holds4 w1 w.heap.size (fun _ => 0) := by rw [← hw1]; exact old_at (new_at rfl)
  have g2 : Holds4 w1 (w.heap.size + 1) (wd 0) := by
    rw [← hw1, wd0f]
    exact new_at (by simp)
  have hc : ∀ V, Below w.heap.size w V → V.cell? ⟨p, 3, none⟩ = some (.slice none 0 0) := fun V hV => (World.cell?_of_block (a := ⟨p, 3, none⟩) (hV.block _ (lt_at h))).trans (cell_at h 3)
  go_enter Try.func44, Try.ntmps44
  go_wp2
  go_loopw [4] (fun c wz => c = .int .i64 0 ∧ Holds4 wz w.heap.size (fun _ => 0) ∧ Holds4 wz (w.heap.size + 1) (wd 0) ∧ Below w.heap.size w wz) (fun _ _ => 0)
  case atStart => exact ⟨rfl, g1, g2, hb1⟩
  case round =>
    obtain ⟨rfl, h1, h2, hb⟩ := hrel
    have c3 := hc wr hb
    obtain ⟨y0, y1, y2, y3, z0, z1, z2, z3⟩ := h1.facts
    obtain ⟨x0, x1, x2, x3, _⟩ := h2.facts
    have H1 : Hid (Holds4 wr w.heap.size (fun _ => 0)) := h1
    clear h1 h2
    go_wp2
    exact ret4 rfl rfl rfl (fin4 H1.out 0) ⟨rfl, below4 hb (Nat.le_refl _) _⟩
/-- The document's tally, a zero one too, as it is asked. -/
structure Pr (W : World) (p : Nat) (r : Bool) (K : Nat) : Prop where
  rd : ∀ V, Below W.heap.size W V → Calls Try.prog 41 #[.pointer (some ⟨p, 0, none⟩)] V fun e w' => e = .returned (.bool r) ∧ Below V.heap.size V w'
  kw : ∀ V, Below W.heap.size W V → Calls Try.prog 22 #[.pointer (some ⟨p, 0, none⟩)] V fun e w' => e = .returned (sv K) ∧ Below V.heap.size V w'
theorem Pr.of (h : Rf W base p t ah ch az cs wh) (hc : Cw t wh) (hv : Tv t) : Pr W p (rdy t) (kn t) := ⟨fun _ hb => rReady_any (h.carry hb) hv, fun _ hb => rKnown_any (h.carry hb) hc hv⟩
theorem Pr.zero (h : W.heap[p]? = some (.cells z5 49 (0, 0))) : Pr W p false 0 :=
  ⟨fun _ hb => rReady_zero ((hb.block _ (lt_at h)).trans h), fun _ hb => rKnown_of (az := none) (cs := 0) 0 [] z5 ((hb.block _ (lt_at h)).trans h) rfl (fun e => absurd rfl e) (by simp) (fun _ hb2 => rReps_zero ((hb2.block _ (Nat.lt_of_lt_of_le (lt_at h) hb.size)).trans ((hb.block _ (lt_at h)).trans h)))⟩
/-- A box with the same cells. -/
theorem Rf.box (h : Rf W base p t ah ch az cs wh) (hb : base ≤ W.heap.size) : Rf (W.alloc (.cells (rfC t.n (t.n - t.need) t.ro (.slice ah t.hs.length ch) (.slice az t.hs.length cs)) 49)) base W.heap.size t ah ch az cs wh :=
  ⟨hb, new_at rfl, row_below h.ri (al1' _ _), row_below h.rs (al1' _ _), h.ln, h.pos⟩
set_option maxHeartbeats 4000000 in
set_option maxRecDepth 100000 in
theorem rMissing_any (n : Int) (c0 c1 c2 c3 c4 : Value) {r : Bool} {K : Nat} (h : Pr (W.alloc (.cells #[c0, c1, c2, c3, c4] 49)) W.heap.size r K) : Calls Try.prog 21 #[.int .i64 n, .agg #[c0, c1, c2, c3, c4]] W fun e w' => e = .returned (.tuple #[sv (msN n r K), .int .i64 (msE n r)]) ∧ Below W.heap.size W w' := by
  obtain ⟨w0, hw0⟩ : ∃ w1, W.alloc (.cells #[c0, c1, c2, c3, c4] 49) = w1 := ⟨_, rfl⟩
  obtain ⟨w1, hw1⟩ : ∃ w1, w0.alloc (.cells #[.int .u32 0, .int .u32 0, .int .u32 0, .int .u32 0] 24) = w1 := ⟨_, rfl⟩
  rw [hw0] at h
  have hb0 : Below W.heap.size W w0 := by rw [← hw0]; exact al1' _ _
  have hb01 : Below w0.heap.size w0 w1 := by rw [← hw1]; exact al1' _ _
  have hb1 : Below W.heap.size W w1 := bel2 hb0 hb01
  have hs0 : w0.heap.size = W.heap.size + 1 := by rw [← hw0]; simp
  have g1 : Holds4 w1 (W.heap.size + 1) (fun _ => 0) := by rw [← hw1, ← hs0]; exact new_at rfl
  obtain ⟨y0, y1, y2, y3, z0, z1, z2, z3⟩ := g1.facts
  have e00 : set4 w1 (W.heap.size + 1) 0 = (((w1.setCell ⟨W.heap.size + 1, 0, none⟩ (.int .u32 0)).setCell ⟨W.heap.size + 1, 1, none⟩ (.int .u32 0)).setCell ⟨W.heap.size + 1, 2, none⟩ (.int .u32 0)).setCell ⟨W.heap.size + 1, 3, none⟩ (.int .u32 0) := by simp [set4, wd]
  by_cases hn : 1 ≤ n ∧ n ≤ 100
  case neg =>
    have e1 : msN n r K = 0 := if_neg (fun e => hn ⟨e.1, e.2.1⟩)
    have e2 : msE n r = 1 := if_neg hn
    rw [e1, e2]
    clear e1 e2
    by_cases hn1 : n < 1
    · go_enter Try.func21, Try.ntmps21
      go_wp2
      rw [← e00]
      exact ret4t rfl rfl rfl rfl (fin4 g1 0) ⟨rfl, below4 hb1 (by omega) _⟩
    · have hn2 : n > 100 := by omega
      go_enter Try.func21, Try.ntmps21
      go_wp2
      rw [← e00]
      exact ret4t rfl rfl rfl rfl (fin4 g1 0) ⟨rfl, below4 hb1 (by omega) _⟩
  have hn1 : ¬ n < 1 := by omega
  have hn2 : ¬ n > 100 := by omega
  have hrd := h.rd w1 hb01
  cases hr : r with
  | false =>
    subst hr
    have e1 : msN n false K = 0 := if_neg (fun e => by cases e.2.2)
    have e2 : msE n false = 170 := by unfold msE; rw [if_pos hn]; rfl
    rw [e1, e2]
    clear e1 e2
    have hk : ∀ V, Below w1.heap.size w1 V → Holds4 V (W.heap.size + 1) (fun _ => 0) := fun V hV => g1.carry hV
    clear y0 y1 y2 y3 z0 z1 z2 z3 e00
    go_enter Try.func21, Try.ntmps21
    go_wp2_with (go_at_call 41; (with_reducible refine hrd.mono ?_); rintro e u ⟨rfl, hu⟩; have g2 := hk u hu; obtain ⟨y0, y1, y2, y3, z0, z1, z2, z3⟩ := g2.facts; have e00 : set4 u (W.heap.size + 1) 0 = (((u.setCell ⟨W.heap.size + 1, 0, none⟩ (.int .u32 0)).setCell ⟨W.heap.size + 1, 1, none⟩ (.int .u32 0)).setCell ⟨W.heap.size + 1, 2, none⟩ (.int .u32 0)).setCell ⟨W.heap.size + 1, 3, none⟩ (.int .u32 0) := (by simp [set4, wd]))
    rw [← e00]
    exact ret4t rfl rfl rfl rfl (fin4 g2 0) ⟨rfl, below4 (bel2 hb1 hu) (by omega) _⟩
  | true =>
    subst hr
    have e1 : msN n true K = cln (dif (fullN n.toNat) K) := if_pos ⟨hn.1, hn.2, rfl⟩
    have e2 : msE n true = 0 := by unfold msE; rw [if_pos hn]; rfl
    have hfu := rAll_any n (by omega) hn.2
    rw [e1, e2]
    clear e1 e2 e00
    obtain ⟨FN, hFN⟩ : ∃ FN, fullN n.toNat = FN := ⟨_, rfl⟩
    rw [hFN] at hfu ⊢
    clear hFN
    have hle := rLess_any FN K
    obtain ⟨M, hM⟩ : ∃ M, cln (dif FN K) = M := ⟨_, rfl⟩
    rw [hM] at hle ⊢
    clear hM
    have hkw := h.kw
    have G1 : Hid (Holds4 w1 (W.heap.size + 1) (fun _ => 0)) := g1
    clear y0 y1 y2 y3 z0 z1 z2 z3 g1
    simp only [sv] at hfu hle hkw
    go_enter Try.func21, Try.ntmps21
    go_wp2_with (first
      | (go_at_call 41; (with_reducible refine hrd.mono ?_); rintro e u ⟨rfl, hu⟩; have k1 := bel2 hb01 hu)
      | (go_at_call 43; (with_reducible refine (hfu _).mono ?_); rintro e u2 ⟨rfl, hu2⟩; have k2 := bel2 k1 hu2)
      | (go_at_call 22; (with_reducible refine (hkw _ k2).mono ?_); rintro e u3 ⟨rfl, hu3⟩; have k3 := bel2 k2 hu3)
      | (go_at_call 42; (with_reducible refine (hle _).mono ?_); rintro e u4 ⟨rfl, hu4⟩; have k4 := bel2 k3 hu4; have g4 : Holds4 u4 (W.heap.size + 1) (fun _ => 0) := (((G1.out.carry hu).carry hu2).carry hu3).carry hu4)
      | (refine wpList_store_row rfl 24 (.tmp 4) (.tmp 19) rfl (W.heap.size + 1) (cells4 (wd M)) rfl rfl 24 _ g4 infoS rfl (by simp [cells4, Value.oneCell']) ?_; obtain ⟨w6, hw6⟩ : ∃ v, u4.setRow (W.heap.size + 1) (cells4 (wd M)) = v := ⟨_, rfl⟩; have g6 : Hid (Holds4 w6 (W.heap.size + 1) (wd M)) := (by rw [← hw6]; exact setRow_heap _ _ _ _ _ _ g4); have hb6 : Hid (Below W.heap.size W w6) := (by rw [← hw6]; exact below_row (bel2 hb0 k4) (by omega) _); rw [hw6]))
    exact ret4t rfl rfl rfl rfl g6.out ⟨rfl, hb6.out⟩
end
end Go.Proofs.Ytgehmidalfajgaa
