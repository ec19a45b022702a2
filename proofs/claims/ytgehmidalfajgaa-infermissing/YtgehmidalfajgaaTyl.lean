/- The document's Take: what it answers, at every reply. -/
import Derived.Test.YtgehmidalfajgaaTyk
namespace Go.Proofs.Ytgehmidalfajgaa
open Go.RowKit Go.Shelf

/-- What turns the block p alone. -/
structure Tp (p : Nat) (W W' : World) : Prop where
  os : W'.os = W.os
  tape : W'.tape = W.tape
  output : W'.output = W.output
  size : W.heap.size ≤ W'.heap.size
  block : ∀ k, k < W.heap.size → k ≠ p → W'.heap[k]? = W.heap[k]?
theorem Tp.of (p : Nat) {W W' : World} (hb : Below W.heap.size W W') : Tp p W W' := ⟨hb.os, hb.tape, hb.output, hb.size, fun k hk _ => hb.block k hk⟩
theorem Tp.trans {p : Nat} {W W' W'' : World} (h : Tp p W W') (k : Tp p W' W'') : Tp p W W'' :=
  ⟨k.os.trans h.os, k.tape.trans h.tape, k.output.trans h.output, Nat.le_trans h.size k.size, fun j hj hn => (k.block j (Nat.lt_of_lt_of_le hj h.size) hn).trans (h.block j hj hn)⟩
theorem Tp.below {p base : Nat} {W W' : World} (h : Tp p W W') (hp : base ≤ p) (hb : base ≤ W.heap.size) : Below base W W' :=
  ⟨h.os, h.tape, h.output, h.size, fun k hk => h.block k (by omega) (by omega)⟩
theorem Tp.set (p j : Nat) (W : World) (v : Value) : Tp p W (W.setCell ⟨p, j, none⟩ v) :=
  ⟨rfl, rfl, rfl, by simp [World.setCell], fun k _ hn => Below.heap_setCell W ⟨p, j, none⟩ v k hn⟩
theorem ofN_bit : ∀ (l : List Int) (N M : Nat), ofN l N = some M → ∀ i : Nat, M.testBit i = (N.testBit i || decide ((i : Int) ∈ l))
  | [], N, M, h, i => by
    simp [ofN] at h
    subst h
    simp
  | j :: l, N, M, h, i => by
    have hj : 0 ≤ j ∧ j < 100 := by
      by_cases q : 0 ≤ j ∧ j < 100
      · exact q
      · simp [ofN, q] at h
    have h' : ofN l (N ||| 2 ^ j.toNat) = some M := by simpa [ofN, hj] using h
    rw [ofN_bit l _ M h' i, Nat.testBit_or]
    by_cases q : j.toNat = i
    · subst q
      rw [Nat.testBit_two_pow_self, Int.toNat_of_nonneg hj.1]
      simp
    · rw [Nat.testBit_two_pow_of_ne q]
      have e : ((i : Int) = j) = False := by
        apply eq_false
        omega
      simp [e]
theorem mem_reps {t : Tl} {wh : List Int} (hc : Cw t wh) (hv : Tv t) {f : Int} (hf : 0 ≤ f ∧ f < 100) : wthN t.reps f = t.reps ↔ f ∈ wh := by
  rw [wthN_bit hf hv.reps]
  unfold hasB
  simp only [hf, and_self, decide_true, Bool.true_and]
  rw [ofN_bit wh 0 t.reps hc.of, Nat.zero_testBit, Bool.false_or, Int.toNat_of_nonneg hf.1]
  simp
/-- While a set is put behind the others, in new memory. -/
structure J5 (w : World) (base p : Nat) (n f ro : Int) (H : Value) (hb : Nat) (az : Option Addr) (cs : Nat) (hs : List Nat) (N : Nat) (g : (Option Addr × Nat) × Nat × Option Addr × Nat) (d5 d7 d8 d11 : Bool) (V : World) : Prop where
  obj : V.heap[p]? = some (.cells (rfC n f ro H (if d11 = true then .slice g.2.2.1 (hs.length + 1) g.2.2.2 else .slice az hs.length cs)) 49 (0, 0))
  bx : Holds4 V hb (wd N)
  r0 : V.ownsRow base 24 4 (.slice az hs.length cs) hs.length (fs hs)
  r5 : d5 = true → d8 = false → V.ownsRow w.heap.size 24 4 (.slice g.1.1 hs.length g.1.2) hs.length (fs hs)
  r8 : d8 = true → V.ownsRow w.heap.size 24 4 (.slice g.2.2.1 (hs.length + 1) g.2.2.2) (hs.length + 1) (fs (hs ++ [N]))
  b7 : d7 = true → d8 = false → Holds4 V g.2.1 (wd N) ∧ (d5 = true → ob g.1.1 ≠ some g.2.1)
  tp : Tp p w V
section
variable {w V V' : World} {base p hb cs N : Nat} {n f ro : Int} {H : Value} {az : Option Addr} {hs : List Nat} {g : (Option Addr × Nat) × Nat × Option Addr × Nat} {d5 d7 d8 d11 : Bool}
theorem J5.carry (h : J5 w base p n f ro H hb az cs hs N g d5 d7 d8 d11 V) (hb' : Below V.heap.size V V') : J5 w base p n f ro H hb az cs hs N g d5 d7 d8 d11 V' :=
  ⟨(hb'.block _ (lt_at h.obj)).trans h.obj, h.bx.carry hb', row_below h.r0 hb', fun a b => row_below (h.r5 a b) hb', fun a => row_below (h.r8 a) hb', fun a b => ⟨(h.b7 a b).1.carry hb', (h.b7 a b).2⟩, h.tp.trans (Tp.of p hb')⟩
theorem J5.bs (h : J5 w base p n f ro H hb az cs hs N g d5 d7 false d11 V) : J5 w base p n f ro H hb az cs hs N (g.1, V.heap.size, g.2.2) d5 true false d11 (V.alloc (.cells (cells4 (wd N)) 24)) := by
  have k := h.carry (al1' V (.cells (cells4 (wd N)) 24))
  exact ⟨k.obj, k.bx, k.r0, k.r5, (fun e => by cases e), fun _ _ => ⟨new_at rfl, fun e e2 => by have := (row_lt2 (h.r5 e rfl) V.heap.size (by rw [ob_eq]; exact e2)).2; omega⟩, k.tp⟩
theorem grown_none {W : World} (hg : W.grownBy V none) : Below W.heap.size W V := ⟨hg.os, hg.tape, hg.output, hg.size, fun k hk => hg.block k hk (by simp)⟩
theorem J5.app0 (h : J5 w base p n f ro H hb az cs hs N g false d7 false d11 V) (hl : hs.length ≤ 1000) (h0 : 0 < hs.length) (ty : TypeId) : ∃ a c V', (Builtin.append_ #[43, 43] ty #[.slice none 0 0, .slice az hs.length cs]).run Try.prog V = .ok (.slice a hs.length c) V' ∧ J5 w base p n f ro H hb az cs hs N ((a, c), g.2) true d7 false d11 V' := by
  obtain ⟨ic, hic, hz0, hz1, hz2⟩ := info_parts infoZ
  have hr0 := h.r0
  obtain ⟨b, cc, e⟩ := own_some hr0 h0
  simp only [Value.slice.injEq] at e
  obtain ⟨rfl, _, rfl⟩ := e
  obtain ⟨v', V', hr, ho, hgr, hn, hown⟩ := run_append_own_at (P := Try.prog) V V.heap.size 43 ty 24 ic _ 4 16 Try.underlying43 hic hz0 hz1 hz2 rfl (by decide) (.slice none 0 0) 0 [] (World.ownsRow_nil _ _ _ _) ⟨b, 0, none⟩ hs.length cs (fs hs) (by rw [fs_len]) (fs_src hr0) (fs_one _) (by unfold maxLen; omega) (by omega) (Nat.le_refl _)
  have hbV := grown_none hgr
  rw [Nat.zero_add, List.nil_append] at ho
  rcases own_form ho with ⟨_, e2⟩ | ⟨g2, c, e1, e3, _⟩
  · omega
  · subst e1
    have k := h.carry hbV
    exact ⟨_, c, V', hr, k.obj, k.bx, k.r0, fun _ _ => row_base ho h.tp.size, (fun e => by cases e), fun a b => ⟨(k.b7 a b).1, fun _ e2 => by
      have h1 := (h.b7 a b).1.lt
      simp [ob] at e2
      omega⟩, k.tp⟩
theorem J5.app1 (h : J5 w base p n f ro H hb az cs hs N g true true false false V) (hl : hs.length ≤ 1000) (hp : p < w.heap.size) (hbx : hb < w.heap.size) (hr : ∀ b, ob az = some b → b < w.heap.size) (ty : TypeId) : ∃ a c V', (Builtin.append_ #[43, 43] ty #[.slice g.1.1 hs.length g.1.2, .slice (some ⟨g.2.1, 0, none⟩) 1 1]).run Try.prog V = .ok (.slice a (hs.length + 1) c) V' ∧ J5 w base p n f ro H hb az cs hs N (g.1, g.2.1, a, c) true true true false V' := by
  obtain ⟨ic, hic, hz0, hz1, hz2⟩ := info_parts infoZ
  have hr5 := h.r5 rfl rfl
  obtain ⟨hg, hne⟩ := h.b7 rfl rfl
  obtain ⟨v', V', hrr, ho, hgr, hn, hown⟩ := run_append_own_at (P := Try.prog) V w.heap.size 43 ty 24 ic _ 4 16 Try.underlying43 hic hz0 hz1 hz2 rfl (by decide) _ hs.length (fs hs) hr5 ⟨g.2.1, 0, none⟩ 1 1 (fs [N]) rfl (fun j u hj => by
    rw [add_pl, Nat.zero_add, cell_at hg]
    have e : (fs [N]) = (cells4 (wd N)).toList := rfl
    rw [e] at hj
    simpa using hj) (fs_one _) (by unfold maxLen; omega) (by omega) h.tp.size
  rw [← fs_append] at ho
  rcases own_form ho with ⟨_, e2⟩ | ⟨g2, c, e1, _⟩
  · omega
  · subst e1
    rw [ob_eq] at hgr
    have hold : ∀ b, b < w.heap.size → some b ≠ ob g.1.1 := fun b hb e => by
      have := (row_lt2 hr5 b (by rw [ob_eq]; exact e.symm)).1
      omega
    have hsz := h.tp.size
    refine ⟨_, c, V', hrr, (hgr.block _ (by omega) (hold p hp)).trans h.obj, (hgr.block _ (by omega) (hold hb hbx)).trans h.bx, row_apart2 h.r0 hgr (fun b e e2 => hold b (hr b (by rw [← ob_eq]; exact e2)) e.symm), fun _ e => (by cases e), fun _ => ho, fun _ e => (by cases e), ⟨hgr.os.trans h.tp.os, hgr.tape.trans h.tp.tape, hgr.output.trans h.tp.output, Nat.le_trans h.tp.size hgr.size, fun k hk hkp => (hgr.block k (by omega) (hold k hk)).trans (h.tp.block k hk hkp)⟩⟩
theorem store_r4 {W : World} {a : Option Addr} {m c : Nat} {S : Value} (h : W.heap[p]? = some (.cells (rfC n f ro H S) 49 (0, 0))) : (Instr.storeAt 43 (.pointer (some ⟨p, 4, none⟩)) (.slice a m c)).run Try.prog W = .ok () (W.setCell ⟨p, 4, none⟩ (.slice a m c)) ∧ (W.setCell ⟨p, 4, none⟩ (.slice a m c)).heap[p]? = some (.cells (rfC n f ro H (.slice a m c)) 49 (0, 0)) := by
  have c0 : W.cell? ⟨p, 4, none⟩ = some S := (cell_at h 4).trans rfl
  have z0 := thaw_at h 4
  refine ⟨by go_simp, ?_⟩
  have := heap_setCell_same _ _ 4 _ _ (.slice a m c) h
  exact this.trans rfl
theorem J5.store (h : J5 w base p n f ro H hb az cs hs N g true true true d11 V) (hne : hb ≠ p) : ∃ V', (Instr.storeAt 43 (.pointer (some ⟨p, 4, none⟩)) (.slice g.2.2.1 (hs.length + 1) g.2.2.2)).run Try.prog V = .ok () V' ∧ J5 w base p n f ro H hb az cs hs N g true true true true V' := by
  obtain ⟨h1, h2⟩ := store_r4 (a := g.2.2.1) (m := hs.length + 1) (c := g.2.2.2) h.obj
  refine ⟨_, h1, h2, (Below.heap_setCell _ _ _ _ hne).trans h.bx, row_other h.r0 (row_type h.r0 h.obj (by decide)) _, fun _ e => (by cases e), fun _ => row_other (h.r8 rfl) (row_type (h.r8 rfl) h.obj (by decide)) _, fun _ e => (by cases e), h.tp.trans (Tp.set p 4 V _)⟩
end
section
variable {w : World} {base p ch cs : Nat} {t : Tl} {ah az : Option Addr} {wh : List Int}
theorem one_src {W : World} {b : Nat} {f : Int} (h : W.heap[b]? = some (.cells #[.int .i64 f] 3 (0, 0))) : ∀ j u, (inV [f])[j]? = some u → W.cell? ((⟨b, 0, none⟩ : Addr).add j) = some u := fun j u hj => by
  rw [add_pl, Nat.zero_add, cell_at h]
  have e : (inV [f]) = (#[Value.int .i64 f] : Array Value).toList := rfl
  rw [e] at hj
  simpa using hj
theorem keep3 {u u1 u2 u3 : World} {v : Value} {n : Nat} {xs : List Value} (h1 : Below u.heap.size u u1) (h2 : Below u1.heap.size u1 u2) (ho : u1.ownsRow u.heap.size 3 1 v n xs) (hg : u2.grownBy u3 v.ownBlock) : ∀ b, b < u.heap.size → u3.heap[b]? = u.heap[b]? := fun b hb => by
  have e1 := h1.size
  have e2 := h2.size
  refine (hg.block b (by omega) (fun e => ?_)).trans ((h2.block b (by omega)).trans (h1.block b hb))
  have := (row_lt2 ho b e.symm).1
  omega
theorem same3 {u u1 u2 u3 : World} {r : Option Nat} (h1 : Below u.heap.size u u1) (h2 : Below u1.heap.size u1 u2) (hg : u2.grownBy u3 r) : u.heap.size ≤ u3.heap.size ∧ u3.os = u.os ∧ u3.tape = u.tape ∧ u3.output = u.output :=
  ⟨Nat.le_trans h1.size (Nat.le_trans h2.size hg.size), hg.os.trans (h2.os.trans h1.os), hg.tape.trans (h2.tape.trans h1.tape), hg.output.trans (h2.output.trans h1.output)⟩
theorem inV_src {bh : Nat} (h : Rf w base p t (some ⟨bh, 0, none⟩) ch az cs wh) : ∀ j u, (inV wh)[j]? = some u → w.cell? ((⟨bh, 0, none⟩ : Addr).add j) = some u := fun j u hj => by
  rw [add_pl, Nat.zero_add]
  have h1 := (List.getElem?_eq_some_iff.1 hj).1
  have hr := h.ri
  rw [hr.1] at h1
  exact (hr.cellAt j (by omega)).trans hj
set_option maxHeartbeats 8000000 in
set_option maxRecDepth 100000 in
theorem rTake_any (h : Rf w base p t ah ch az cs wh) (hc : Cw t wh) (hv : Tv t) (hb0 : base ≤ w.heap.size) (f r : Int) (N : Nat) (hN : N < S128) : Calls Try.prog 20 #[.pointer (some ⟨p, 0, none⟩), .int .i64 f, .int .i64 r, sv N] w fun e w' => e = .returned (.tuple #[.int .i64 (kd (fate t f r N)), .int .i64 (ke (fate t f r N))]) ∧ ∃ ah' ch' az' cs' wh', Rf w' base p (tk t f r N) ah' ch' az' cs' wh' ∧ Cw (tk t f r N) wh' ∧ Tp p w w' ∧ (az' = az ∨ ∀ b, ob az' = some b → w.heap.size ≤ b) := by
  have hmx : Try.prog.follows .mixedOrders = true := by kernel_rfl
  obtain ⟨w1, hw1⟩ : ∃ w1, w.alloc (.cells #[.int .u32 (wd N 0 : Nat), .int .u32 (wd N 1 : Nat), .int .u32 (wd N 2 : Nat), .int .u32 (wd N 3 : Nat)] 24) = w1 := ⟨_, rfl⟩
  have hb1 : Below w.heap.size w w1 := by rw [← hw1]; exact al1' _ _
  have hs1 : w.heap.size < w1.heap.size := by rw [← hw1]; simp
  have g1 : Holds4 w1 w.heap.size (wd N) := by rw [← hw1]; exact new_at rfl
  have hR1 := h.carry hb1
  obtain ⟨c0, _, c2, _, _⟩ := hR1.cells
  have same : ∀ {V : World} {i : Nat}, fate t f r N = i → i ≠ 5 → Below w.heap.size w V → ∃ ah' ch' az' cs' wh', Rf V base p (tk t f r N) ah' ch' az' cs' wh' ∧ Cw (tk t f r N) wh' ∧ Tp p w V ∧ (az' = az ∨ ∀ b, ob az' = some b → w.heap.size ≤ b) := fun {V i} hi h5 hb => by
    have e : tk t f r N = t := if_neg (by rw [hi]; exact h5)
    rw [e]
    exact ⟨ah, ch, az, cs, wh, h.carry hb, hc, Tp.of p hb, .inl rfl⟩
  by_cases q0 : f < 0
  · have hi : fate t f r N = 0 := by unfold fate; rw [if_pos (by simp [isN]; omega)]
    rw [hi]
    simp only [sv]
    go_enter Try.func20, Try.ntmps20
    go_wp2
    go_ret2
    exact ⟨rfl, same hi (by decide) hb1⟩
  by_cases q1 : t.n ≤ f
  · have hi : fate t f r N = 0 := by unfold fate; rw [if_pos (by simp [isN]; omega)]
    rw [hi]
    simp only [sv]
    go_enter Try.func20, Try.ntmps20
    go_wp2
    go_ret2
    exact ⟨rfl, same hi (by decide) hb1⟩
  have his : isN f t.n = true := by simp [isN]; omega
  have hf1 : fate t f r N = if wthB N t.n = false then 1 else if r ≠ t.ro then 2 else if wthN t.reps f = t.reps then 3 else if rdy t = true then 4 else 5 := by unfold fate; rw [if_neg (by simp [his])]
  have hwi := rWithin_any N hN t.n
  have HR1 : Hid (Rf w1 base p t ah ch az cs wh) := hR1
  have G1 : Hid (Holds4 w1 w.heap.size (wd N)) := g1
  have HC2 : Hid (w1.cell? ⟨p, 2, none⟩ = some (.int .i64 t.ro)) := c2
  have hb0' : base ≤ w1.heap.size := Nat.le_trans hb0 hb1.size
  clear c0 c2 g1 hR1
  cases hwb : wthB N t.n with
  | false =>
    have hi : fate t f r N = 1 := by rw [hf1, if_pos hwb]
    rw [hi]
    simp only [sv]
    obtain ⟨c0, _⟩ := HR1.out.cells
    go_enter Try.func20, Try.ntmps20
    go_wp2
    refine wp_region_any hmx ?_
    refine wpAny_pure (fun i__ => ([(sv N), (.pointer (some ⟨p, 0, none⟩)), (.pointer (some ⟨p, 0, none⟩)), (.pointer (some ⟨p, 0, none⟩)), (.int .i64 t.n), (.bool false), (.bool true)] : List Value).getD i__ undef) (fun V => Below w1.heap.size w1 V) (by kernel_rfl) (Below.refl _ _).drew ?_ ?_
    · refine (stepsFrom_cons ?_ (stepsFrom_cons ?_ (stepsFrom_cons ?_ (stepsFrom_cons ?_ (stepsFrom_cons ?_ (stepsFrom_cons ?_ (stepsFrom_cons ?_ trivial)))))))
      · exact step_load rfl trivial _ _ _ rfl rfl (fun v hw => whole4 v _ N (G1.out.carry hw))
      · exact step_move rfl trivial _ rfl (by kernel_rfl)
      · exact step_nilCheck rfl trivial _ _ _ rfl rfl rfl
      · exact step_fieldAddr rfl trivial _ _ _ _ rfl rfl (fun v hw => field_r0 v _)
      · exact step_load rfl trivial _ _ _ rfl rfl (fun v hw => load_i64 (HR1.out.carry hw).cells.1)
      · exact step_call rfl trivial 40 _ _ [(sv N), (.int .i64 t.n)] rfl (by kernel_rfl) (enters_of Try.func40 (by kernel_rfl) rfl) (fun v hw => by have q := hwi v; rw [hwb] at q; exact q.mono (by rintro e w2 ⟨rfl, hb⟩; exact ⟨rfl, bel2 hw hb⟩))
      · exact step_unOp rfl trivial _ _ _ _ rfl rfl (fun v hw => un_not false v)
    intro W hW
    first | refine hK _ _ ?_ | refine (‹∀ (a : Act) (w : World), Code.wp Try.prog _ _ a w → _›) _ _ ?_
    simp only [finL, List.getD_cons_zero, List.getD_cons_succ, Nat.zero_add, Nat.reduceAdd, List.setIfInBounds_toArray, List.set_cons_zero, List.set_cons_succ]
    go_wp2
    go_ret2
    exact ⟨rfl, same hi (by decide) (bel2 hb1 hW)⟩
  | true =>
    rw [hwb, if_neg (by simp)] at hf1
    simp only [sv]
    obtain ⟨c0, _⟩ := HR1.out.cells
    go_enter Try.func20, Try.ntmps20
    go_wp2
    refine wp_region_any hmx ?_
    refine wpAny_pure (fun i__ => ([(sv N), (.pointer (some ⟨p, 0, none⟩)), (.pointer (some ⟨p, 0, none⟩)), (.pointer (some ⟨p, 0, none⟩)), (.int .i64 t.n), (.bool true), (.bool false)] : List Value).getD i__ undef) (fun V => Below w1.heap.size w1 V) (by kernel_rfl) (Below.refl _ _).drew ?_ ?_
    · refine (stepsFrom_cons ?_ (stepsFrom_cons ?_ (stepsFrom_cons ?_ (stepsFrom_cons ?_ (stepsFrom_cons ?_ (stepsFrom_cons ?_ (stepsFrom_cons ?_ trivial)))))))
      · exact step_load rfl trivial _ _ _ rfl rfl (fun v hw => whole4 v _ N (G1.out.carry hw))
      · exact step_move rfl trivial _ rfl (by kernel_rfl)
      · exact step_nilCheck rfl trivial _ _ _ rfl rfl rfl
      · exact step_fieldAddr rfl trivial _ _ _ _ rfl rfl (fun v hw => field_r0 v _)
      · exact step_load rfl trivial _ _ _ rfl rfl (fun v hw => load_i64 (HR1.out.carry hw).cells.1)
      · exact step_call rfl trivial 40 _ _ [(sv N), (.int .i64 t.n)] rfl (by kernel_rfl) (enters_of Try.func40 (by kernel_rfl) rfl) (fun v hw => by have q := hwi v; rw [hwb] at q; exact q.mono (by rintro e w2 ⟨rfl, hb⟩; exact ⟨rfl, bel2 hw hb⟩))
      · exact step_unOp rfl trivial _ _ _ _ rfl rfl (fun v hw => un_not true v)
    intro W hW
    first | refine hK _ _ ?_ | refine (‹∀ (a : Act) (w : World), Code.wp Try.prog _ _ a w → _›) _ _ ?_
    simp only [finL, List.getD_cons_zero, List.getD_cons_succ, Nat.zero_add, Nat.reduceAdd, List.setIfInBounds_toArray, List.set_cons_zero, List.set_cons_succ]
    have hRW := HR1.out.carry hW
    have hbW := bel2 hb1 hW
    have GW : Hid (Holds4 W w.heap.size (wd N)) := G1.out.carry hW
    obtain ⟨_, _, c2, c3, _⟩ := hRW.cells
    obtain ⟨nn, hnn⟩ : ∃ nn, t.hs.length = nn := ⟨_, rfl⟩
    have hln := h.ln
    rw [hnn] at hln c3
    have hlen := hv.len
    have hd1 := hv.d1
    have hn1 := hv.n1
    by_cases hro : r = t.ro
    case neg =>
      have hi : fate t f r N = 2 := by rw [hf1, if_pos hro]
      clear c3
      go_wp2
      go_ret2
      rw [hi]
      exact ⟨rfl, same hi (by decide) hbW⟩
    rw [if_neg (by simp [hro])] at hf1
    rw [← hro] at c2
    have HRW : Hid (Rf W base p t ah ch az cs wh) := hRW
    clear hRW hW c0
    go_wp2
    go_loopw [10] (fun c wz => ∃ k : Nat, c = .int .i64 k ∧ k ≤ nn ∧ (∀ j, j < k → wh[j]? ≠ some f) ∧ Below W.heap.size W wz) (fun c _ => nn - vnat c)
    case atStart => exact ⟨0, rfl, Nat.zero_le _, fun j hj => absurd hj (by omega), Below.refl _ _⟩
    case round =>
      obtain ⟨k, rfl, hk, hno, hbr⟩ := hrel
      have hRr := HRW.out.carry hbr
      obtain ⟨_, _, _, d3, _⟩ := hRr.cells
      rw [hnn] at d3
      have hidf := isN_id his hn1
      by_cases hkl : k < nn
      · have hki : (k : Int) < (nn : Int) := by omega
        obtain ⟨x, hx⟩ : ∃ x, wh[k]? = some x := ⟨_, List.getElem?_eq_getElem (by omega)⟩
        obtain ⟨b, rfl, hbl, cx⟩ := inV_at hRr.ri hx h.ln
        by_cases hxf : x = f
        · subst hxf
          have hi : fate t x r N = 3 := by rw [hf1, if_pos ((mem_reps hc hv hidf).2 (List.mem_of_getElem? hx))]
          go_wp2
          go_ret2
          rw [hi]
          exact ⟨rfl, same hi (by decide) (bel2 hbW hbr)⟩
        · go_wp2
          go_roundw
          case rel => exact ⟨k + 1, by simp, by omega, fun j hj => by
            rcases Nat.lt_or_ge j k with q | q
            · exact hno j q
            · obtain rfl : j = k := by omega
              rw [hx]
              simpa using hxf, hbr⟩
          case measure => simp [vnat]; omega
      · have hkk : k = nn := by omega
        subst hkk
        have hki : ¬ ((k : Int) < (k : Int)) := by omega
        have hnm : f ∉ wh := fun hm => by
          obtain ⟨j, hj⟩ := List.mem_iff_getElem?.1 hm
          exact hno j (by rw [← hln]; exact (List.getElem?_eq_some_iff.1 hj).1) hj
        rw [if_neg (fun e => hnm ((mem_reps hc hv hidf).1 e))] at hf1
        have hrd := rReady_any hRr hv
        cases hrdy : rdy t with
        | true =>
          have hi : fate t f r N = 4 := by rw [hf1, if_pos hrdy]
          rw [hrdy] at hrd
          go_wp2_with (go_at_call 41; (with_reducible refine hrd.mono ?_); rintro e u ⟨rfl, hu⟩)
          go_ret2
          rw [hi]
          exact ⟨rfl, same hi (by decide) (bel2 (bel2 hbW hbr) hu)⟩
        | false =>
          have hi : fate t f r N = 5 := by rw [hf1, if_neg (by simp [hrdy])]
          rw [hrdy] at hrd
          have hpos := h.pos
          rw [hnn] at hpos
          obtain ⟨ic, hic, hz0, hz1, hz2⟩ := info_parts infoJ
          obtain ⟨bh, cc, eh⟩ := own_some hRr.ri (by omega)
          simp only [Value.slice.injEq] at eh
          obtain ⟨rfl, _, rfl⟩ := eh
          have HR : Hid (Rf wr base p t (some ⟨bh, 0, none⟩) ch az cs wh) := hRr
          have hsz := hbW.size
          have hbWr : Below w.heap.size w wr := bel2 hbW hbr
          have hbsI := bsI
          clear hRr
          go_wp2_with (first
            | (go_at_call 41; (with_reducible refine hrd.mono ?_); rintro e u ⟨rfl, hu⟩; have HU : Hid (Rf u base p t (some ⟨bh, 0, none⟩) ch az cs wh) := HR.out.carry hu; obtain ⟨_, _, _, e3, _⟩ := HU.out.cells; rw [hnn] at e3; have hbU : Hid (Below w.heap.size w u) := bel2 hbWr hu)
            | (at_builtin; refine wpList_append_own_at _ rfl _ _ 47 rfl u.heap.size 3 ic _ 1 8 Try.underlying47 hic hz0 hz1 hz2 rfl (by decide) _ 0 [] rfl (World.ownsRow_nil _ _ _ _) ⟨bh, 0, none⟩ k ch (inV wh) rfl (by simp [inV, hln]) (inV_src HU.out) (inV_one _) (by unfold maxLen; omega) (by omega) (Nat.le_refl _) ?_; intro v1 u1 ho1 hg1 _ _; have hbu1 : Hid (Below u.heap.size u u1) := grown_none hg1; have ho1' : u1.ownsRow u.heap.size 3 1 v1 k (inV wh) := (by simpa using ho1); have HO1 : Hid (u1.ownsRow u.heap.size 3 1 v1 k (inV wh)) := ho1'; clear ho1 ho1'; obtain ⟨u2, hu2⟩ : ∃ u2, u1.alloc (.cells #[.int .i64 f] 3) = u2 := ⟨_, rfl⟩; have hb2 : Hid (Below u1.heap.size u1 u2) := (by rw [← hu2]; exact al1' _ _); have hg2 : Hid (u2.heap[u1.heap.size]? = some (.cells #[.int .i64 f] 3 (0, 0))) := (by rw [← hu2]; exact new_at rfl))
            | (at_builtin; refine wpList_append_own_at _ rfl _ _ 47 rfl u.heap.size 3 ic _ 1 8 Try.underlying47 hic hz0 hz1 hz2 rfl (by decide) _ k (inV wh) rfl (row_below HO1.out hb2.out) ⟨u1.heap.size, 0, none⟩ 1 1 (inV [f]) rfl rfl (one_src hg2.out) (inV_one _) (by unfold maxLen; omega) (by omega) (Nat.le_trans hbu1.out.size hb2.out.size) ?_; intro v2 u3 ho3 hg3 _ _; have hkeep : Hid (∀ b, b < u.heap.size → u3.heap[b]? = u.heap[b]?) := keep3 hbu1.out hb2.out HO1.out hg3; rw [← inV_snoc] at ho3; obtain ⟨g3, cc3, e3v⟩ := own_some ho3 (by omega); subst e3v; have HO3 : Hid (u3.ownsRow u.heap.size 3 1 (.slice (some ⟨g3, 0, none⟩) (k + 1) cc3) (k + 1) (inV (wh ++ [f]))) := ho3; have hs3 : Hid (u.heap.size ≤ u3.heap.size ∧ u3.os = u.os ∧ u3.tape = u.tape ∧ u3.output = u.output) := same3 hbu1.out hb2.out hg3; clear ho3 hg3; have HP3 : Hid (u3.heap[p]? = some (.cells (rfC t.n (t.n - t.need) t.ro (.slice (some ⟨bh, 0, none⟩) t.hs.length ch) (.slice az t.hs.length cs)) 49 (0, 0))) := (hkeep.out p HU.out.lt).trans HU.out.obj; have x3 := cell_at HP3.out 3; have zz3 := thaw_at HP3.out 3; simp only [rfC] at x3; simp at x3))
          clear x3 zz3 e3 d3 c2 c3 hrd
          obtain ⟨w5, hw5⟩ : ∃ w5, u3.setCell ⟨p, 3, none⟩ (.slice (some ⟨g3, 0, none⟩) (k + 1) cc3) = w5 := ⟨_, rfl⟩
          have hs5 : w5.heap.size = u3.heap.size := by rw [← hw5]; simp
          have hP5 : w5.heap[p]? = some (.cells (rfC t.n (t.n - t.need) t.ro (.slice (some ⟨g3, 0, none⟩) (k + 1) cc3) (.slice az t.hs.length cs)) 49 (0, 0)) := by
            rw [← hw5]
            exact (heap_setCell_same _ _ 3 _ _ (.slice (some ⟨g3, 0, none⟩) (k + 1) cc3) HP3.out).trans rfl
          have hoth : ∀ b, b < u.heap.size → b ≠ p → w5.heap[b]? = u.heap[b]? := fun b hb hne => by
            rw [← hw5]
            exact (Below.heap_setCell _ _ _ _ hne).trans (hkeep.out b hb)
          have hplt := h.lt
          have hbU0 := hbU.out
          have hszU := hbU0.size
          have gU : Holds4 u w.heap.size (wd N) := GW.out.carry (bel2 hbr hu)
          have g5 : Holds4 w5 w.heap.size (wd N) := (hoth _ gU.lt (by omega)).trans gU
          have hrsU := HU.out.rs
          have r05 : w5.ownsRow base 24 4 (.slice az t.hs.length cs) t.hs.length (fs t.hs) := row_moved hrsU (fun b e => hoth b (row_lt2 hrsU b e).2 (fun e2 => row_type hrsU HU.out.obj (by decide) (by rw [← e2]; exact e)))
          have i5 : w5.ownsRow u.heap.size 3 1 (.slice (some ⟨g3, 0, none⟩) (k + 1) cc3) (k + 1) (inV (wh ++ [f])) := by
            rw [← hw5]
            exact row_other HO3.out (row_type HO3.out HP3.out (by decide)) _
          have tp5 : Tp p w w5 := ⟨by rw [← hw5]; exact hs3.out.2.1.trans hbU0.os, by rw [← hw5]; exact hs3.out.2.2.1.trans hbU0.tape, by rw [← hw5]; exact hs3.out.2.2.2.trans hbU0.output, by rw [hs5]; exact Nat.le_trans hszU hs3.out.1, fun b hb hne => (hoth b (by omega) hne).trans (hbU0.block b hb)⟩
          have hst : J5 w5 base p t.n (t.n - t.need) t.ro (.slice (some ⟨g3, 0, none⟩) (k + 1) cc3) w.heap.size az cs t.hs N ((none, 0), 0, none, 0) false false false false w5.drew := ⟨hP5, g5, row_below r05 (Below.refl _ _).drew, (fun e => by cases e), (fun e => by cases e), (fun e => by cases e), Tp.of p (Below.refl _ _).drew⟩
          have hl100 : t.hs.length ≤ 1000 := by omega
          have hl0 : 0 < t.hs.length := by omega
          have hu5 : u.heap.size ≤ w5.heap.size := by rw [hs5]; exact hs3.out.1
          have hp5 : p < w5.heap.size := lt_at hP5
          have hb5 : w.heap.size < w5.heap.size := g5.lt
          have hz5 : ∀ b, ob az = some b → b < w5.heap.size := fun b e => (row_lt2 r05 b (by rw [ob_eq]; exact e)).2
          have hne5 : w.heap.size ≠ p := by omega
          obtain ⟨hs, hhs⟩ : ∃ hs, t.hs = hs := ⟨_, rfl⟩
          rw [hhs] at hst hl100 hl0
          have hsk : hs.length = k := by rw [← hhs]; exact hnn
          rw [hw5]
          have HP5 : Hid (w5.heap[p]? = some (.cells (rfC t.n (t.n - t.need) t.ro (.slice (some ⟨g3, 0, none⟩) (k + 1) cc3) (.slice az t.hs.length cs)) 49 (0, 0))) := hP5
          clear hP5 HP3 HO3 hkeep hoth HU GW HO1 hg2 hb2 hbu1 hw5 hu2 hs3
          refine wp_region_any hmx ?_
          refine wpAny_tabG (G := ((Option Addr × Nat) × Nat × Option Addr × Nat)) (fun g i__ => ([(.pointer (some ⟨p, 0, none⟩)), (.pointer (some ⟨p, 0, none⟩)), (.pointer (some ⟨p, 0, none⟩)), (.pointer (some ⟨p, 4, none⟩)), (.slice az k cs), (.slice g.1.1 k g.1.2), (sv N), (.slice (some ⟨g.2.1, 0, none⟩) 1 1), (.slice g.2.2.1 (k + 1) g.2.2.2), (.pointer (some ⟨p, 0, none⟩)), (.pointer (some ⟨p, 4, none⟩)), undef] : List Value).getD i__ undef) (fun g d V => J5 w5 base p t.n (t.n - t.need) t.ro (.slice (some ⟨g3, 0, none⟩) (k + 1) cc3) w.heap.size az cs hs N g (d 5) (d 7) (d 8) (d 11) V) (by kernel_rfl) (((none, 0), 0, none, 0)) hst ?step1 ?fin1
          case step1 =>
            intro i o ho
            have hi : i < 12 := getElem?_lt ho
            match i, hi, ho with
            | 0, _, ho =>
              cases ho
              refine stepG_ofC (fun g d hun hdep hcl => ?_)
              exact step_move rfl trivial _ rfl (by kernel_rfl)
            | 1, _, ho =>
              cases ho
              refine stepG_ofC (fun g d hun hdep hcl => ?_)
              exact step_move rfl trivial _ rfl (by kernel_rfl)
            | 2, _, ho =>
              cases ho
              refine stepG_ofC (fun g d hun hdep hcl => ?_)
              exact step_nilCheck rfl trivial _ _ _ rfl rfl rfl
            | 3, _, ho =>
              cases ho
              refine stepG_ofC (fun g d hun hdep hcl => ?_)
              exact step_fieldAddr rfl trivial _ _ _ _ rfl rfl (fun v hw => field_r4 v _)
            | 4, _, ho =>
              cases ho
              refine stepG_ofC (fun g d hun hdep hcl => ?_)
              exact step_load rfl trivial _ _ _ rfl rfl (fun v hw => by have h11 : d 11 = false := (by cases h : d 11 with | false => rfl | true => exact absurd (hcl 11 _ rfl h 4 (by kernel_rfl)) (by rw [hun]; simp)); have ho := hw.obj; rw [h11, hsk] at ho; exact load_ss ((cell_at ho 4).trans rfl))
            | 5, _, ho =>
              cases ho
              exact stepG_append rfl rfl _ _ _ (fun _ => .slice none 0 0) (fun _ => .slice az k cs) rfl (fun g => by kernel_rfl) (fun g => by kernel_rfl) (fun g d V hJ hun hdep hcl => by have h8 : d 8 = false := (by cases h : d 8 with | false => rfl | true => exact absurd (hcl 8 _ rfl h 5 (by kernel_rfl)) (by rw [hun]; simp)); have hJ' := hJ; rw [hun, h8] at hJ'; obtain ⟨a, c, V', hr, hA⟩ := hJ'.app0 hl100 hl0 43; rw [hsk] at hr; refine ⟨((a, c), g.2), V', hr, (fun j hj => match j, hj with | 5, hj => (by rw [hj] at hun; cases hun)  | 0, _ => rfl | 1, _ => rfl | 2, _ => rfl | 3, _ => rfl | 4, _ => rfl | 6, _ => rfl | 7, _ => rfl | 8, _ => rfl | 9, _ => rfl | 10, _ => rfl | 11, _ => rfl | _ + 12, _ => rfl), ?_⟩; show J5 w5 base p t.n (t.n - t.need) t.ro _ w.heap.size az cs hs N _ true (d 7) (d 8) (d 11) V'; rw [h8]; exact hA)
            | 6, _, ho =>
              cases ho
              refine stepG_ofC (fun g d hun hdep hcl => ?_)
              exact step_load rfl trivial _ _ _ rfl rfl (fun v hw => whole4 v _ N hw.bx)
            | 7, _, ho =>
              cases ho
              exact stepG_buildG rfl rfl _ _ (fun g => sv N) rfl (fun g => by kernel_rfl) (fun g d V hJ hun hdep hcl => by have h8 : d 8 = false := (by cases h : d 8 with | false => rfl | true => exact absurd (hcl 8 _ rfl h 7 (by kernel_rfl)) (by rw [hun]; simp)); have hJ' := hJ; rw [hun, h8] at hJ'; refine ⟨(g.1, V.heap.size, g.2.2), _, bs1S V N, (fun j hj => match j, hj with | 7, hj => (by rw [hj] at hun; cases hun)  | 0, _ => rfl | 1, _ => rfl | 2, _ => rfl | 3, _ => rfl | 4, _ => rfl | 5, _ => rfl | 6, _ => rfl | 8, _ => rfl | 9, _ => rfl | 10, _ => rfl | 11, _ => rfl | _ + 12, _ => rfl), ?_⟩; show J5 w5 base p t.n (t.n - t.need) t.ro _ w.heap.size az cs hs N _ (d 5) true (d 8) (d 11) _; rw [h8]; exact hJ'.bs)
            | 8, _, ho =>
              cases ho
              exact stepG_append rfl rfl _ _ _ (fun g => .slice g.1.1 k g.1.2) (fun g => .slice (some ⟨g.2.1, 0, none⟩) 1 1) rfl (fun g => by kernel_rfl) (fun g => by kernel_rfl) (fun g d V hJ hun hdep hcl => by have h5 : d 5 = true := hdep 5 (by kernel_rfl); have h7 : d 7 = true := hdep 7 (by kernel_rfl); have h11 : d 11 = false := (by cases h : d 11 with | false => rfl | true => exact absurd (hcl 11 _ rfl h 8 (by kernel_rfl)) (by rw [hun]; simp)); have hJ' := hJ; rw [h5, h7, hun, h11] at hJ'; obtain ⟨a, c, V', hr, hA⟩ := hJ'.app1 hl100 hp5 hb5 hz5 43; rw [hsk] at hr; refine ⟨(g.1, g.2.1, a, c), V', hr, (fun j hj => match j, hj with | 8, hj => (by rw [hj] at hun; cases hun)  | 0, _ => rfl | 1, _ => rfl | 2, _ => rfl | 3, _ => rfl | 4, _ => rfl | 5, _ => rfl | 6, _ => rfl | 7, _ => rfl | 9, _ => rfl | 10, _ => rfl | 11, _ => rfl | _ + 12, _ => rfl), ?_⟩; show J5 w5 base p t.n (t.n - t.need) t.ro _ w.heap.size az cs hs N _ (d 5) (d 7) true (d 11) V'; rw [h5, h7, h11]; exact hA)
            | 9, _, ho =>
              cases ho
              refine stepG_ofC (fun g d hun hdep hcl => ?_)
              exact step_nilCheck rfl trivial _ _ _ rfl rfl rfl
            | 10, _, ho =>
              cases ho
              refine stepG_ofC (fun g d hun hdep hcl => ?_)
              exact step_fieldAddr rfl trivial _ _ _ _ rfl rfl (fun v hw => field_r4 v _)
            | 11, _, ho =>
              cases ho
              refine stepG_ofC (fun g d hun hdep hcl => ?_)
              exact step_store rfl trivial rfl _ _ _ _ _ rfl rfl rfl (fun V hw => by have h5 : d 5 = true := hdep 5 (by kernel_rfl); have h7 : d 7 = true := hdep 7 (by kernel_rfl); have h8 : d 8 = true := hdep 8 (by kernel_rfl); have hw' := hw; rw [h5, h7, h8] at hw'; obtain ⟨V', hr, hA⟩ := hw'.store hne5; rw [hsk] at hr; refine ⟨V', hr, ?_⟩; show J5 w5 base p t.n (t.n - t.need) t.ro _ w.heap.size az cs hs N _ (d 5) (d 7) (d 8) true V'; rw [h5, h7, h8]; exact hA)
          intro g d W hall hW
          first | refine hK _ _ ?_ | refine (‹∀ (a : Act) (w : World), Code.wp Try.prog _ _ a w → _›) _ _ ?_ | skip
          simp only [finL, List.getD_cons_zero, List.getD_cons_succ, Nat.zero_add, Nat.reduceAdd, List.setIfInBounds_toArray, List.set_cons_zero, List.set_cons_succ]
          rw [hall 5 (by decide), hall 7 (by decide), hall 8 (by decide), hall 11 (by decide)] at hW
          have HJ : Hid (J5 w5 base p t.n (t.n - t.need) t.ro (.slice (some ⟨g3, 0, none⟩) (k + 1) cc3) w.heap.size az cs hs N g true true true true W) := hW
          clear hW hall hst
          go_wp2
          go_ret2
          have hJ := HJ.out
          have e : tk t f r N = cntT t f N := if_pos hi
          have hcs : Cw (tk t f r N) (wh ++ [f]) := hc.step hv (o := ⟨f, r, N⟩) hi
          have ehs : (cntT t f N).hs = hs ++ [N] := by simp [cntT, hhs]
          have elen : (cntT t f N).hs.length = k + 1 := by rw [ehs]; simp [hsk]
          have h8 := hJ.r8 rfl
          rw [hsk] at h8
          have ho := hJ.obj
          rw [if_pos rfl, hsk] at ho
          have hi5 : W.ownsRow u.heap.size 3 1 (.slice (some ⟨g3, 0, none⟩) (k + 1) cc3) (k + 1) (inV (wh ++ [f])) := row_moved i5 (fun b e => hJ.tp.block b (row_lt2 i5 b e).2 (fun e2 => row_type i5 (show w5.heap[p]? = _ from HP5.out) (by decide) (by rw [← e2]; exact e)))
          rw [hi]
          refine ⟨rfl, some ⟨g3, 0, none⟩, cc3, g.2.2.1, g.2.2.2, wh ++ [f], ?_, hcs, tp5.trans hJ.tp, .inr (fun b eb => ?_)⟩
          · rw [e]
            refine ⟨h.pb, ?_, ?_, ?_, ?_, by omega⟩
            · rw [elen]
              exact ho
            · rw [elen]
              exact row_base hi5 (by omega)
            · rw [elen, ehs]
              exact row_base h8 (by omega)
            · rw [elen]
              simp [hln]
          · have := (row_lt2 h8 b (by rw [ob_eq]; exact eb)).1
            omega
end
end Go.Proofs.Ytgehmidalfajgaa
