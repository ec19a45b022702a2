import Derived.Test.YtmahamdmapbilaaGreatDoorJwJ13
import Derived.Test.YtmahamdmapbilaaGreatDoorJwJ10
set_option maxHeartbeats 40000000
set_option maxRecDepth 100000
set_option linter.unusedVariables false
namespace Go.Proofs.YtmahamdmapbilaaGreatDoor
open Go.RowKit Go.Shelf Go.Lib
def signV (l : List Int) (i : Int) : Value := match (if i < 0 then none else l[i.toNat]?) with
 | some c => .tuple #[.int .i32 c, .int .i64 0]
 | none => .tuple #[.int .i32 0, .int .i64 30]
theorem sign_any {M : Nat} {v : Value} {l : List Int} (w : World) (h : Ros M w v l) (hM : M ≤ w.heap.size) (i : Int) : Calls Tryz.prog 155 #[v, .int .i64 i] w fun e w' => e = .returned (signV l i) ∧ Below w.heap.size w w' := by
 obtain ⟨h0, sl, mp, rfl, ⟨ad, cap, rfl, hf⟩, _⟩ := h
 have hls := h0.short
 have hsz := sizeP_any ad l.length cap mp
 by_cases hi : 0 ≤ i ∧ i < l.length
 · obtain ⟨k, rfl⟩ := Int.eq_ofNat_of_zero_le hi.1
   have hk : k < l.length := by omega
   obtain ⟨g, rfl, g1, g2, g3⟩ := hf (fun e => by subst e; simp at hk)
   have hV : signV l (k : Int) = .tuple #[.int .i32 l[k], .int .i64 0] := by
     unfold signV
     rw [if_neg (by omega), Int.toNat_natCast, List.getElem?_eq_getElem hk]
   have gk := g3 k l[k] (List.getElem?_eq_getElem hk)
   rw [hV]
   generalize l[k] = c at *
   generalize l.length = n at *
   clear hf g3 hV
   have hglt : g < w.heap.size := by omega
   go_enter Tryz.func155, Tryz.ntmps155
   go_wp2_with (go_at_call 20; refine (hsz _).mono ?_; rintro e w1 ⟨rfl, hb1⟩; have hg1 : w1.cell? ⟨g, k, none⟩ = some (.int .i32 c) := (hb1.cell (p := ⟨g, k, none⟩) (by simp; omega)).trans (((Below.refl w.heap.size w).alloc (Nat.le_refl _) _).cell (p := ⟨g, k, none⟩) hglt |>.trans gk); have hs1 := hb1.size; have hv1 : w1.heap[w.heap.size]? = some (.cells #[.slice (some ⟨g, 0, none⟩) n cap, mp] 25 (0, 0)) := (hb1.block _ (by simp)).trans (zna rfl); have y0 := zca hv1 0; have hlt1 := zla hv1)
   go_ret2
   exact ⟨rfl, ((Below.refl _ w).alloc (Nat.le_refl _) _).trans (hb1.mono (by simp))⟩
 · have hV : signV l i = .tuple #[.int .i32 0, .int .i64 30] := by
     unfold signV
     by_cases h1 : i < 0
     · rw [if_pos h1]
     · rw [if_neg h1, List.getElem?_eq_none (by omega)]
   rw [hV]
   by_cases h1 : i < 0
   · clear hi hf hV
     go_enter Tryz.func155, Tryz.ntmps155
     go_wp2
     go_ret2
     exact ⟨rfl, (Below.refl _ w).alloc (Nat.le_refl _) _⟩
   · have h2 : (l.length : Int) ≤ i := by omega
     have h3 : 0 ≤ i := by omega
     clear hi hf hV
     go_enter Tryz.func155, Tryz.ntmps155
     go_wp2_with (go_at_call 20; refine (hsz _).mono ?_; rintro e w1 ⟨rfl, hb1⟩)
     go_ret2
     exact ⟨rfl, ((Below.refl _ w).alloc (Nat.le_refl _) _).trans (hb1.mono (by simp))⟩
def withV (N : Nat) (id : Int) : Value := if 0 ≤ id ∧ id < 100 then .tuple #[sv (cln N ||| 2 ^ id.toNat), .int .i64 0] else .tuple #[sv 0, .int .i64 30]
theorem pow_bit (i : Nat) : 2 ^ (i % 32) < 4294967296 := Nat.pow_lt_pow_right (a := 2) (n := 32) (by decide) (Nat.mod_lt _ (by decide))
theorem with_any (N : Nat) (id : Int) (w : World) : Calls Tryz.prog 230 #[sv N, .int .i64 id] w fun e w' => e = .returned (withV N id) ∧ Below w.heap.size w w' := by
 have hmx := mixO
 have hc := clean_any N
 have hid := isId_any id
 by_cases h : 0 ≤ id ∧ id < 100
 · obtain ⟨i, rfl⟩ := Int.eq_ofNat_of_zero_le h.1
   have hi : i < 100 := by omega
   have hq : i / 32 < 4 := by omega
   simp only [h, and_self, decide_true] at hid
   have hV : withV N (i : Int) = .tuple #[sv (cln N ||| 2 ^ i), .int .i64 0] := by rw [withV, if_pos h]; rfl
   rw [hV]
   generalize cln N = M at *
   simp only [sv] at hc ⊢
   go_enter Tryz.func230, Tryz.ntmps230
   go_wp2_with (first | (go_at_call 244; refine (hid _).mono ?_; rintro e w1 ⟨rfl, rfl⟩) | (go_at_call 191; refine (hc _).mono ?_; rintro e w1 ⟨rfl, hb⟩; have q1 : Hid (Zh4 w1 w.heap.size (wd N)) := (hb.block _ (by simp; omega)).trans (get_oldQ (get_newQ (by simp))); have q2 : Hid (Zh4 w1 (w.heap.size + 1) (fun _ => 0)) := (hb.block _ (by simp)).trans (get_newQ (by simp)); obtain ⟨y0, y1, y2, y3, z0, z1, z2, z3⟩ := q1.out.facts))
   clear hc hid
   rename_i Q0 K0 hK
   refine wp_region_any hmx ?_
   have hb2 : Below w.heap.size w w1 := (((Below.refl _ w).alloc (by simp) _).alloc (by simp) _).trans (hb.mono (by simp; omega))
   refine zwl 8 (fun i__ => ([(.int .i64 (i : Int)), (.int .i64 ((i / 32 : Nat) : Int)), (.pointer (some ⟨w.heap.size, i / 32, none⟩)), (.int .u32 ((wd M (i / 32) : Nat) : Int)), (.int .i64 (i : Int)), (.int .u32 ((2 ^ (i % 32) : Nat) : Int)), (.int .u32 ((wd M (i / 32) ||| 2 ^ (i % 32) : Nat) : Int)), (.pointer (some ⟨w.heap.size, i / 32, none⟩)), undef] : List Value).getD i__ undef) (fun W => Zh4 W w.heap.size (wd M) ∧ Zh4 W (w.heap.size + 1) (fun _ => 0) ∧ Below w.heap.size w W) (fun W => Zh4 W w.heap.size (wd (M ||| 2 ^ i)) ∧ Zh4 W (w.heap.size + 1) (fun _ => 0) ∧ Below w.heap.size w W) rfl (by kernel_rfl) (by kernel_rfl) ⟨fin4 q1.out M, (hold4 (by omega)).trans q2.out, (below4 hb2 (Nat.le_refl _) M).drew⟩ ?_ ?_  ?_
   · refine (sqc ?_ (sqc ?_ (sqc ?_ (sqc ?_ (sqc ?_ (sqc ?_ (sqc ?_ (sqc ?_ trivial))))))))
     · exact zmv rfl trivial _ rfl (by kernel_rfl)
     · exact zbo rfl trivial _ _ _ _ _ _ _ rfl rfl rfl (fun w hw => bin_quo64 i 32 (by omega) (by omega))
     · exact zia rfl trivial _ _ _ _ _ rfl rfl rfl (fun w hw => idx4 _ _ hq w)
     · exact zld rfl trivial _ _ _ rfl rfl (fun w hw => load4 w _ _ _ hw.1 hq)
     · exact zmv rfl trivial _ rfl (by kernel_rfl)
     · exact zsc rfl trivial 245 _ _ [(.int .i64 (i : Int))] rfl (by kernel_rfl) (enters_of Tryz.func245 (by kernel_rfl) rfl) (fun w hw => (bit_any i (by omega) w).mono (by rintro e w' ⟨rfl, rfl⟩; exact ⟨rfl, hw⟩))
     · exact zbo rfl trivial _ _ _ _ _ _ _ rfl rfl rfl (fun w hw => bin_or32 _ _ (wd_lt _ _) (pow_bit i))
     · exact zia rfl trivial _ _ _ _ _ rfl rfl rfl (fun w hw => idx4 _ _ hq w)
   · intro o ho
     cases ho
     exact step_store rfl trivial rfl _ _ _ _ _ rfl rfl rfl (fun w' hw => by obtain ⟨w2, e1, e2, e3, e4⟩ := store4 w' _ _ _ _ hw.1 hq; refine ⟨w2, e1, e2.congr (fun j hj => ?_), (e4 _ (by omega)).trans hw.2.1, hw.2.2.trans (e3 _ (Nat.le_refl _))⟩; rw [wd_bit]; split <;> simp_all)
   intro W hW
   first | refine hK _ _ ?_ | refine (‹∀ (a : Act) (w : World), Code.wp Tryz.prog _ _ a w → _›) _ _ ?_ | skip
   simp only [finL, List.getD_cons_zero, List.getD_cons_succ, Nat.zero_add, Nat.reduceAdd, List.setIfInBounds_toArray, List.set_cons_zero, List.set_cons_succ]
   obtain ⟨g1, g2, g3⟩ := hW
   obtain ⟨x0, x1, x2, x3, _⟩ := g1.facts
   obtain ⟨u0, u1, u2, u3, v0, v1, v2, v3⟩ := g2.facts
   have H2 : Hid (Zh4 W (w.heap.size + 1) (fun _ => 0)) := g2
   clear g1 g2 hK q1 q2 y0 y1 y2 y3 z0 z1 z2 z3 hb hb2
   go_wp2
   exact ret4t rfl rfl rfl rfl (fin4 H2.out _) ⟨rfl, below4 g3 (by omega) _⟩
 · simp only [h, decide_false] at hid
   have hV : withV N id = .tuple #[sv 0, .int .i64 30] := by rw [withV, if_neg h]
   rw [hV]
   have g2 : Zh4 ((w.alloc (.cells (cells4 (wd N)) 36)).alloc (.cells (cells4 (fun _ => 0)) 36)) (w.heap.size + 1) (fun _ => 0) := get_newQ (by simp)
   simp only [sv]
   clear hc
   go_enter Tryz.func230, Tryz.ntmps230
   go_wp2_with (go_at_call 244; refine (hid _).mono ?_; rintro e w1 ⟨rfl, rfl⟩)
   refine ret4t (M := 0) rfl rfl rfl rfl (g2.congr (fun j _ => by simp [wd])) ⟨?_, ((Below.refl _ w).alloc (by simp) _).alloc (by simp) _⟩
   rfl
theorem set4z (w : World) (b : Nat) : set4 w b 0 = (((w.setCell ⟨b, 0, none⟩ (.int .u32 0)).setCell ⟨b, 1, none⟩ (.int .u32 0)).setCell ⟨b, 2, none⟩ (.int .u32 0)).setCell ⟨b, 3, none⟩ (.int .u32 0) := by simp [set4, wd]
theorem set4_other (w : World) (b M j : Nat) (h : j ≠ b) : (set4 w b M).heap[j]? = w.heap[j]? := by
 unfold set4
 rw [Below.heap_setCell _ _ _ _ h, Below.heap_setCell _ _ _ _ h, Below.heap_setCell _ _ _ _ h, Below.heap_setCell _ _ _ _ h]
def wsV (l : List Int) (N : Nat) (c : Int) : Value := if c ∈ l then (if N.testBit (l.idxOf c) then .tuple #[sv 0, .int .i64 42] else .tuple #[sv (N ||| 2 ^ l.idxOf c), .int .i64 0]) else .tuple #[sv 0, .int .i64 41]
theorem withSign_any {M : Nat} {v : Value} {l : List Int} (w : World) (h : Ros M w v l) (hM : M ≤ w.heap.size) (N : Nat) (hN : N < S100) {c : Int} (h0 : -2147483648 ≤ c) (h1 : c ≤ 2147483647) : Calls Tryz.prog 209 #[v, sv N, .int .i32 c] w fun e w' => e = .returned (wsV l N c) ∧ Below w.heap.size w w' := by
 obtain ⟨ad, cap, mb, rfl⟩ := h.form
 have hid := fun (W : World) (hb : Below w.heap.size w W) => id_any W (h.below (hb.mono hM)) (Nat.le_trans hM hb.size) h0 h1
 have hsg := h.1
 have hhas := has_any N
 have hwth := with_any N
 by_cases hc : c ∈ l
 · have hi := idx_lt hsg hc
   have e1 : idV l c = .tuple #[.int .i64 ((l.idxOf c : Nat) : Int), .int .i64 0] := by rw [idV, if_pos hc]
   rw [e1] at hid
   have e2 : hasB N ((l.idxOf c : Nat) : Int) = N.testBit (l.idxOf c) := by
     unfold hasB
     rw [decide_eq_true (by omega), Int.toNat_natCast, Bool.true_and]
   have e3 : withV N ((l.idxOf c : Nat) : Int) = .tuple #[sv (N ||| 2 ^ l.idxOf c), .int .i64 0] := by
     unfold withV
     rw [if_pos (by omega), Int.toNat_natCast, cln_self hN]
   have hhas1 := hhas ((l.idxOf c : Nat) : Int)
   have hwth1 := hwth ((l.idxOf c : Nat) : Int)
   rw [e2] at hhas1
   rw [e3] at hwth1
   clear hhas hwth e1 e2 e3
   by_cases hb : N.testBit (l.idxOf c)
   · have hV : wsV l N c = .tuple #[sv 0, .int .i64 42] := by rw [wsV, if_pos hc, if_pos hb]
     rw [hV]
     rw [hb] at hhas1
     clear hV hb hwth1 hc
     generalize l.idxOf c = i at *
     simp only [sv] at hhas1 ⊢
     go_enter Tryz.func209, Tryz.ntmps209
     go_wp2_with (first | (go_at_call 205; refine (hid _ ((((Below.refl _ w).alloc (by simp) _).alloc (by simp) _).alloc (by simp; omega) _)).mono ?_; rintro e w1 ⟨rfl, hb1⟩; have q1 : Zh4 w1 (w.heap.size + 1) (wd N) := (hb1.block _ (by simp)).trans (get_oldQ (get_newQ (by simp))); have q2 : Zh4 w1 (w.heap.size + 2) (fun _ => 0) := (hb1.block _ (by simp)).trans (get_newQ (by simp)); obtain ⟨y0, y1, y2, y3, z0, z1, z2, z3⟩ := q1.facts; have hs1 := q2.lt; have H2 : Hid (Zh4 w1 (w.heap.size + 2) (fun _ => 0)) := q2; clear q1 q2) | (go_at_call 229; refine (hhas1 _).mono ?_; rintro e w2 ⟨rfl, hb2⟩; have q3 := (H2.out).carry hb2; have hs2 := q3.lt; obtain ⟨u0, u1, u2, u3, v0, v1, v2, v3⟩ := q3.facts; have H3 : Hid (Zh4 w2 (w.heap.size + 2) (fun _ => 0)) := q3; clear q3))
     rw [← set4z]
     refine ret4t rfl rfl rfl rfl (fin4 H3.out 0) ⟨rfl, below4 (bcarry (bcarry ((((Below.refl _ w).alloc (by simp) _).alloc (by simp) _).alloc (by simp; omega) _) (Nat.le_refl _) hb1) (Nat.le_refl _) hb2) (by omega) _⟩
   · have hV : wsV l N c = .tuple #[sv (N ||| 2 ^ l.idxOf c), .int .i64 0] := by rw [wsV, if_pos hc, if_neg hb]
     rw [hV]
     rw [Bool.not_eq_true] at hb
     rw [hb] at hhas1
     clear hV hb hc
     generalize l.idxOf c = i at *
     generalize N ||| 2 ^ i = N2 at *
     simp only [sv] at hhas1 hwth1 ⊢
     go_enter Tryz.func209, Tryz.ntmps209
     go_wp2_with (first | (go_at_call 205; refine (hid _ ((((Below.refl _ w).alloc (by simp) _).alloc (by simp) _).alloc (by simp; omega) _)).mono ?_; rintro e w1 ⟨rfl, hb1⟩; have q1 : Zh4 w1 (w.heap.size + 1) (wd N) := (hb1.block _ (by simp)).trans (get_oldQ (get_newQ (by simp))); have q2 : Zh4 w1 (w.heap.size + 2) (fun _ => 0) := (hb1.block _ (by simp)).trans (get_newQ (by simp)); obtain ⟨y0, y1, y2, y3, z0, z1, z2, z3⟩ := q1.facts; have hs1 := q2.lt; have H2 : Hid (Zh4 w1 (w.heap.size + 2) (fun _ => 0)) := q2; have H1 : Hid (Zh4 w1 (w.heap.size + 1) (wd N)) := q1; clear q1 q2) | (go_at_call 229; refine (hhas1 _).mono ?_; rintro e w2 ⟨rfl, hb2⟩; have q3 := (H2.out).carry hb2; have q4 := (H1.out).carry hb2; have hs2 := q3.lt; obtain ⟨x0, x1, x2, x3, _⟩ := q4.facts; have H3 : Hid (Zh4 w2 (w.heap.size + 2) (fun _ => 0)) := q3; clear q3 q4) | (go_at_call 230; refine (hwth1 _).mono ?_; rintro e w3 ⟨rfl, hb3⟩; have q3 := (H3.out).carry hb3; have hs3 := q3.lt; obtain ⟨u0, u1, u2, u3, v0, v1, v2, v3⟩ := q3.facts; have H4 : Hid (Zh4 w3 (w.heap.size + 2) (fun _ => 0)) := q3; clear q3))
     refine ret4t rfl rfl rfl rfl (fin4 H4.out N2) ⟨rfl, below4 (bcarry (bcarry (bcarry ((((Below.refl _ w).alloc (by simp) _).alloc (by simp) _).alloc (by simp; omega) _) (Nat.le_refl _) hb1) (Nat.le_refl _) hb2) (Nat.le_refl _) hb3) (by omega) _⟩
 · have e1 : idV l c = .tuple #[.int .i64 0, .int .i64 41] := by rw [idV, if_neg hc]
   rw [e1] at hid
   have hV : wsV l N c = .tuple #[sv 0, .int .i64 41] := by rw [wsV, if_neg hc]
   rw [hV]
   clear hV e1 hc hhas hwth
   simp only [sv]
   go_enter Tryz.func209, Tryz.ntmps209
   go_wp2_with (go_at_call 205; refine (hid _ ((((Below.refl _ w).alloc (by simp) _).alloc (by simp) _).alloc (by simp; omega) _)).mono ?_; rintro e w1 ⟨rfl, hb1⟩; have q2 : Zh4 w1 (w.heap.size + 2) (fun _ => 0) := (hb1.block _ (by simp)).trans (get_newQ (by simp)); obtain ⟨y0, y1, y2, y3, z0, z1, z2, z3⟩ := q2.facts; have hs1 := q2.lt; have H2 : Hid (Zh4 w1 (w.heap.size + 2) (fun _ => 0)) := q2; clear q2)
   rw [← set4z]
   refine ret4t rfl rfl rfl rfl (fin4 H2.out 0) ⟨rfl, below4 (bcarry ((((Below.refl _ w).alloc (by simp) _).alloc (by simp) _).alloc (by simp; omega) _) (Nat.le_refl _) hb1) (by omega) _⟩
theorem ret4u {f : Func} {p q r : Tmp} {R : Ending → World → Prop} {a : Act} {w : World} {b M : Nat} {x y : Value} (hres : f.results = #[.cell p 36, .tmp q, .tmp r]) (hp : a.tmps.getD p undef = .pointer (some ⟨b, 0, none⟩)) (hq : a.tmps.getD q undef = x) (hr : a.tmps.getD r undef = y) (hd : a.defers = []) (h : Zh4 w b (wd M)) (hR : R (.returned (.tuple #[sv M, x, y])) w) : bodyPost Tryz.prog f R .ret a w := by
 refine bodyPost_ret (v := .tuple #[sv M, x, y]) ?_ hd hR
 have h1 := run_loadVar_row (P := Tryz.prog) w b 36 36 (cells4 (wd M)) (0, 0) _ h Tryz.underlying36 rfl (by kernel_rfl)
 have hp' : a.tmps[p]?.getD undef = .pointer (some ⟨b, 0, none⟩) := by simpa using hp
 have hq' : a.tmps[q]?.getD undef = x := by simpa using hq
 have hr' : a.tmps[r]?.getD undef = y := by simpa using hr
 simp [results, hres, hp', hq', hr', asAddr, h1]
 rfl
def psV (R : Nat × Int × Int) : Value := .tuple #[sv R.1, .int .i64 R.2.1, .int .i64 R.2.2]
theorem dash_ne {s : ByteArray} (h : s ≠ dash) : (s.toList == [45]) = false := by
 rw [beq_eq_false_iff_ne]
 intro e
 rw [Lib.toList_data] at e
 exact h (ByteArray.ext (Array.toList_inj.1 e))
theorem parse_any {M : Nat} {v : Value} {l : List Int} (w : World) (h : Ros M w v l) (hM : M ≤ w.heap.size) (s : ByteArray) (hs : s.size ≤ maxLen) : Calls Tryz.prog 186 #[v, .string s] w fun e w' => e = .returned (psV (parseR l s)) ∧ Below w.heap.size w w' := by
 obtain ⟨ad, cap, mb, rfl⟩ := h.form
 have hsg := h.1
 have hsz := sizeError_any s hs
 have g0 : Zh4 ((w.alloc (.cells #[.slice ad l.length cap, .map mb] 25)).alloc (.cells (cells4 (fun _ => 0)) 36)) (w.heap.size + 1) (fun _ => 0) := get_newQ (by simp)
 have b0 : Below w.heap.size w ((w.alloc (.cells #[.slice ad l.length cap, .map mb] 25)).alloc (.cells (cells4 (fun _ => 0)) 36)) := ((Below.refl _ w).alloc (by simp) _).alloc (by simp) _
 have hz0 : ∀ j, j < 4 → (fun _ => 0) j = wd 0 j := fun j _ => by simp [wd]
 by_cases h1 : 65536 < s.size
 · have hR : parseR l s = (0, 0, 2) := by rw [parseR, if_pos h1]
   rw [show szE s = 2 by rw [szE, if_pos h1]] at hsz
   rw [hR]
   go_enter Tryz.func186, Tryz.ntmps186
   go_wp2_with (go_at_call 18; refine (hsz _).mono ?_; rintro e w1 ⟨rfl, rfl⟩)
   exact ret4u (M := 0) rfl rfl rfl rfl rfl (g0.congr hz0) ⟨rfl, b0⟩
 by_cases h2 : s.size = 0
 · have hR : parseR l s = (0, 0, 40) := by rw [parseR, if_neg h1, if_pos h2]
   rw [show szE s = 40 by rw [szE, if_neg h1, if_pos h2]] at hsz
   rw [hR]
   go_enter Tryz.func186, Tryz.ntmps186
   go_wp2_with (go_at_call 18; refine (hsz _).mono ?_; rintro e w1 ⟨rfl, rfl⟩)
   exact ret4u (M := 0) rfl rfl rfl rfl rfl (g0.congr hz0) ⟨rfl, b0⟩
 rw [show szE s = 0 by rw [szE, if_neg h1, if_neg h2]] at hsz
 by_cases h3 : s = dash
 · have hR : parseR l s = (0, 0, 0) := by rw [parseR, if_neg h1, if_neg h2, if_pos h3]
   rw [hR]
   subst h3
   unfold dash at hsz ⊢
   clear h1 h2 hR
   go_enter Tryz.func186, Tryz.ntmps186
   go_wp2_with (go_at_call 18; refine (hsz _).mono ?_; rintro e w1 ⟨rfl, rfl⟩)
   exact ret4u (M := 0) rfl rfl rfl rfl rfl (g0.congr hz0) ⟨rfl, b0⟩
 have HR : Hid (parseR l s = psGo l 0 0 (charsOf s)) := by show parseR l s = _; rw [parseR, if_neg h1, if_neg h2, if_neg h3]
 have hd := dash_ne h3
 clear h3
 have hs16 : s.size ≤ 65536 := by omega
 go_enter Tryz.func186, Tryz.ntmps186
 go_wp2_with (go_at_call 18; refine (hsz _).mono ?_; rintro e w1 ⟨rfl, rfl⟩)
 clear hsz
 go_loopw [9] (fun c wz => ∃ (pos fuel k N : Nat), Hid (psGo l N k (charsFrom s fuel pos) = psGo l 0 0 (charsOf s)) ∧ s.size ≤ pos + fuel ∧ k ≤ pos ∧ pos ≤ s.size ∧ c = .int .i64 k ∧ N < S100 ∧ wz.heap[w.heap.size]? = some (.cells #[.slice ad l.length cap, .map mb] 25 (0, 0)) ∧ Zh4 wz (w.heap.size + 1) (fun _ => 0) ∧ Zh4 wz (w.heap.size + 2) (wd N) ∧ wz.heap[w.heap.size + 3]? = some (.stringIter s pos) ∧ Below w.heap.size w wz) (fun _ wz => s.size - wz.iterPos (w.heap.size + 3))
 case atStart =>
   have hr : Hid (psGo l 0 0 (charsFrom s s.size 0) = psGo l 0 0 (charsOf s)) := rfl
   have hset0 : Zh4 ((((w.alloc (.cells #[.slice ad l.length cap, .map mb] 25)).alloc (.cells (cells4 (fun _ => 0)) 36)).alloc (.cells (cells4 (fun _ => 0)) 36)).alloc (.stringIter s 0)) (w.heap.size + 2) (fun _ => 0) := zoa (get_newQ (by simp))
   exact ⟨0, s.size, 0, 0, hr, by omega, by omega, by omega, rfl, by decide, zoa (zoa (zoa (zna rfl))), zoa (zoa g0), hset0.congr hz0, zna (by simp), (b0.alloc (by simp; omega) _).alloc (by simp; omega) _⟩
 case round =>
   obtain ⟨pos, fuel, k, N, hgo, hfu, hkp, hps, rfl, hN, hvar, hres, hset, hit, hbw⟩ := hrel
   have hlt := zla hit
   by_cases hp : pos < s.size
   · have hnx : ∀ ty, (Instr.next (.pointer (some ⟨w.heap.size + 3, 0, none⟩)) true ty).run Tryz.prog wr = .ok (.tuple #[.bool true, .int .i64 pos, .int .i32 (rn s pos)]) (wr.iterAt (w.heap.size + 3) s (pos + wdt s pos)) := fun ty => Lib.run_next_any_at wr (w.heap.size + 3) s pos ty hit hp
     have hwd := wdt_pos s pos
     have hwl := wdt_le s pos hp
     have hrn := rn_le s pos
     have hbi := Lib.below_iterAt (Below.refl (w.heap.size + 3) wr) (Nat.le_refl _) s (pos + wdt s pos)
     have hit2 := Lib.iterAt_heap wr (w.heap.size + 3) s pos (pos + wdt s pos) hit
     have hmeas : wr.iterPos (w.heap.size + 3) = pos := by simp only [World.iterPos, hit]
     have hwsz := Lib.iterAt_size wr (w.heap.size + 3) s (pos + wdt s pos)
     obtain ⟨f, rfl⟩ : ∃ f, fuel = f + 1 := ⟨fuel - 1, by omega⟩
     rw [charsFrom_step s f pos hp] at hgo
     generalize wr.iterAt (w.heap.size + 3) s (pos + wdt s pos) = W1 at *
     have hvar1 := (hbi.block _ (by omega)).trans hvar
     have hres1 := hres.keep hbi (by omega)
     have hset1 := hset.keep hbi (by omega)
     have hb1 : Below w.heap.size w W1 := hbw.trans (hbi.mono (by omega))
     have c0 := zca hvar1 0
     have c1 := zca hvar1 1
     obtain ⟨y0, y1, y2, y3, z0, z1, z2, z3⟩ := hset1.facts
     have hws := withSign_any W1 (h.below (hb1.mono hM)) (by omega) N hN (c := (rn s pos : Int)) (by omega) (by omega)
     have H1 : Hid (Zh4 W1 (w.heap.size + 1) (fun _ => 0)) := hres1
     have H2 : Hid (Zh4 W1 (w.heap.size + 2) (wd N)) := hset1
     clear hres1 hset1 hset hres
     by_cases hC : (rn s pos : Int) ∈ l ∧ N.testBit (l.idxOf (rn s pos : Int)) = false
     · have e1 : wsV l N (rn s pos : Int) = .tuple #[sv (N ||| 2 ^ l.idxOf (rn s pos : Int)), .int .i64 0] := by rw [wsV, if_pos hC.1, if_neg (by rw [hC.2]; decide)]
       have HG : Hid (psGo l (N ||| 2 ^ l.idxOf (rn s pos : Int)) (k + 1) (charsFrom s f (pos + wdt s pos)) = psGo l 0 0 (charsOf s)) := by
        have := hgo.out
        rw [psGo, if_pos hC.1, if_neg (by rw [hC.2]; decide)] at this
        exact this
       have hN2 := or_lt100 hN (idx_lt hsg hC.1)
       rw [e1] at hws
       clear e1 hC hgo
       generalize N ||| 2 ^ l.idxOf (rn s pos : Int) = N2 at *
       generalize (rn s pos : Int) = c at *
       simp only [sv] at hws
       go_wp2_with (go_at_call 209; refine hws.mono ?_; rintro e w2 ⟨rfl, hb2⟩; have hsz2 := hb2.size; have q2 := (H2.out).carry hb2; have hs2 := q2.lt; obtain ⟨x0, x1, x2, x3, r0, r1, r2, r3⟩ := q2.facts; have H3 : Hid (Zh4 w2 (w.heap.size + 2) (wd N)) := q2; clear q2)
       go_roundw
       case rel =>
        have k1 : Zh4 ((set4 w2 (w.heap.size + 2) N2).alloc (.cells (cells4 (wd N2)) 36)) (w.heap.size + 2) (wd N2) := get_oldQ (fin4 H3.out N2)
        have k2 : ((set4 w2 (w.heap.size + 2) N2).alloc (.cells (cells4 (wd N2)) 36)).heap[w.heap.size]? = some (.cells #[.slice ad l.length cap, .map mb] 25 (0, 0)) := zoa ((set4_other _ _ _ _ (by omega)).trans ((hb2.block _ (by omega)).trans hvar1))
        have k3 : Zh4 ((set4 w2 (w.heap.size + 2) N2).alloc (.cells (cells4 (wd N2)) 36)) (w.heap.size + 1) (fun _ => 0) := zoa ((set4_other _ _ _ _ (by omega)).trans ((H1.out).carry hb2))
        have k4 : ((set4 w2 (w.heap.size + 2) N2).alloc (.cells (cells4 (wd N2)) 36)).heap[w.heap.size + 3]? = some (.stringIter s (pos + wdt s pos)) := zoa ((set4_other _ _ _ _ (by omega)).trans ((hb2.block _ (by omega)).trans hit2))
        have k5 : Below w.heap.size w ((set4 w2 (w.heap.size + 2) N2).alloc (.cells (cells4 (wd N2)) 36)) := (below4 (hb1.trans (hb2.mono (by omega))) (by omega) _).alloc (Nat.le_trans (Nat.le_of_lt (Nat.lt_of_le_of_lt (Nat.le_add_right _ _) (Zh4.lt (fin4 H3.out N2)))) (Nat.le_refl _)) _
        exact ⟨pos + wdt s pos, f, k + 1, N2, HG, by omega, by omega, hwl, by simp, hN2, k2, k3, k1, k4, k5⟩
       case measure =>
        have hI : ((set4 w2 (w.heap.size + 2) N2).alloc (.cells (cells4 (wd N2)) 36)).iterPos (w.heap.size + 3) = pos + wdt s pos := by
          have k4 : ((set4 w2 (w.heap.size + 2) N2).alloc (.cells (cells4 (wd N2)) 36)).heap[w.heap.size + 3]? = some (.stringIter s (pos + wdt s pos)) := zoa ((set4_other _ _ _ _ (by omega)).trans ((hb2.block _ (by omega)).trans hit2))
          simp only [World.iterPos, k4]
        change s.size - ((set4 w2 (w.heap.size + 2) N2).alloc (.cells (cells4 (wd N2)) 36)).iterPos (w.heap.size + 3) < s.size - wr.iterPos (w.heap.size + 3)
        rw [hI, hmeas]
        omega
     · have e0 : ∃ x : Int, x ≠ 0 ∧ wsV l N (rn s pos : Int) = .tuple #[sv 0, .int .i64 x] ∧ parseR l s = (0, (k : Int), x) := by
        have hq := HR.out.trans hgo.out.symm
        rw [psGo] at hq
        unfold wsV
        by_cases q1 : (rn s pos : Int) ∈ l
        · rw [if_pos q1] at hq ⊢
          by_cases q2 : N.testBit (l.idxOf (rn s pos : Int))
          · rw [if_pos q2] at hq ⊢; exact ⟨42, by decide, rfl, hq⟩
          · exact absurd ⟨q1, by simpa using q2⟩ hC
        · rw [if_neg q1] at hq ⊢; exact ⟨41, by decide, rfl, hq⟩
       obtain ⟨x, hx, e1, e2⟩ := e0
       have hne : (x == 0) = false := beq_eq_false_iff_ne.2 hx
       have HE : Hid (parseR l s = (0, (k : Int), x)) := e2
       rw [e1] at hws
       clear e1 e2 hC hgo hx HR
       generalize (rn s pos : Int) = c at *
       simp only [sv] at hws
       go_wp2_with (go_at_call 209; refine hws.mono ?_; rintro e w2 ⟨rfl, hb2⟩; have hsz2 := hb2.size; have q2 := (H1.out).carry hb2; have hs2 := q2.lt; obtain ⟨x0, x1, x2, x3, r0, r1, r2, r3⟩ := q2.facts; have H3 : Hid (Zh4 w2 (w.heap.size + 1) (fun _ => 0)) := q2; clear q2)
       rw [← set4z, HE.out]
       have k5 : Below w.heap.size w ((set4 w2 (w.heap.size + 1) 0).alloc (.cells (cells4 (wd 0)) 36)) := (below4 (hb1.trans (hb2.mono (by omega))) (by omega) _).alloc (Nat.le_of_lt (Nat.lt_of_le_of_lt (Nat.le_add_right _ _) (Zh4.lt (fin4 H3.out 0)))) _
       exact ret4u rfl rfl rfl rfl rfl (get_oldQ (fin4 H3.out 0)) ⟨rfl, k5⟩
   · have hnx : ∀ ty, (Instr.next (.pointer (some ⟨w.heap.size + 3, 0, none⟩)) true ty).run Tryz.prog wr = .ok (.tuple #[.bool false]) wr := fun ty => Lib.run_next_end_at wr (w.heap.size + 3) s pos ty hit hp
     have HE : Hid (parseR l s = (N, 0, 0)) := by
       have := hgo.out
       rw [charsFrom_end s fuel pos hp, psGo] at this
       exact HR.out.trans this.symm
     clear hgo HR
     obtain ⟨y0, y1, y2, y3, z0, z1, z2, z3⟩ := hset.facts
     obtain ⟨x0, x1, x2, x3, r0, r1, r2, r3⟩ := hres.facts
     have H1 : Hid (Zh4 wr (w.heap.size + 1) (fun _ => 0)) := hres
     clear hset hres
     go_wp2
     rw [HE.out]
     exact ret4u rfl rfl rfl rfl rfl (fin4 H1.out N) ⟨rfl, below4 hbw (by omega) _⟩
theorem tk_sign {nb wb : Nat} {l : List Tk4} {i : Nat} {w : World} (h : Tk nb wb l i w) (x : Tk4) (hx : l[i]? = some x) (hl : l.length ≤ 1000000) (hk : x.1 = 2) (hs : ((starts x.2.1).length : Int) = 1) (ht : x.2.1.size ≤ maxLen) : Calls Tryz.prog 93 #[.func (.func 179) #[] #[], .pointer (some ⟨nb, 0, none⟩), .pointer (some ⟨wb, 0, none⟩)] w fun e w' => e = .returned (tk4 x) ∧ Tk nb wb l (i + 1) w' ∧ Ob nb w w' :=
 take_yes 179 #[] (enters_of Tryz.func179 (by kernel_rfl) rfl) h x hx hl (fun V _ => by
  have := isSign_any x.1 x.2.2.1 x.2.2.2 x.2.1 ht V
  rw [hk, hs] at this
  unfold tk4
  rw [hk]
  exact this)
structure JS (nb wb b : Nat) (l : List Tk4) (i : Nat) (sl mp : Value) (w W : World) (d : Bool) : Prop where
 tk : Tk nb wb l (if d = true then i + 1 else i) W
 rd : RdBx W b sl mp nb wb
 ob : Ob nb w W
theorem JS.carry {nb wb b : Nat} {l : List Tk4} {i : Nat} {sl mp : Value} {w W V : World} {d : Bool} (h : JS nb wb b l i sl mp w W d) (hb : Below W.heap.size W V) : JS nb wb b l i sl mp w V d := ⟨h.tk.carry hb, (hb.block _ (zla h.rd)).trans h.rd, h.ob.trans (Ob.of hb)⟩
theorem load_tkr {W : World} {b : Nat} {sl mp : Value} {nb wb : Nat} (h : RdBx W b sl mp nb wb) : (Instr.loadAt 83 (.pointer (some ⟨b, 2, none⟩))).run Tryz.prog W = .ok (rdF nb wb) W := by
 have c2 : W.cell? ⟨b, 2, none⟩ = some (rdF nb wb) := (zca h 2).trans rfl
 unfold rdF at c2 ⊢
 go_simp
theorem sender_ok {M : Nat} {sl mp : Value} {L : List Int} {nb wb : Nat} {l : List Tk4} {i : Nat} {w : World} (hR : Ros M w (.agg #[sl, mp]) L) (hMn : M ≤ nb) (hM : M ≤ w.heap.size) (h : Tk nb wb l i w) (x : Tk4) (hx : l[i]? = some x) (hl : l.length ≤ 1000000) (hk : x.1 = 2) (hs : ((starts x.2.1).length : Int) = 1) (ht : x.2.1.size ≤ maxLen) (hin : ((rn x.2.1 0 : Nat) : Int) ∈ L) : Calls Tryz.prog 151 #[.agg #[sl, mp, rdF nb wb]] w fun e w' => e = .returned (.int .i64 (L.idxOf ((rn x.2.1 0 : Nat) : Int) : Int)) ∧ Tk nb wb l (i + 1) w' ∧ Ob nb w w' := by
 have hmx := mixO
 obtain ⟨W1, hW1⟩ : ∃ W1, w.alloc (.cells #[sl, mp, rdF nb wb] 86) = W1 := ⟨_, rfl⟩
 have hb1 : Below w.heap.size w W1 := by rw [← hW1]; exact al1t _ _
 have hr1 : W1.heap[w.heap.size]? = some (.cells #[sl, mp, rdF nb wb] 86 (0, 0)) := by rw [← hW1]; exact zna rfl
 have hj : Hid (JS nb wb w.heap.size l i sl mp w W1 false) := ⟨h.carry hb1, hr1, Ob.of hb1⟩
 have HR : Hid (∀ V, Ob nb w V → Ros M V (.agg #[sl, mp]) L) := fun V hV => hR.ob hV hMn hM
 have hnb := zla h.nx
 obtain ⟨V0, hV0⟩ : ∃ V0, (L.idxOf ((rn x.2.1 0 : Nat) : Int) : Int) = V0 := ⟨_, rfl⟩
 have hp0 := pos_of_one hs
 have HT : Hid (∀ V, Ob nb w V → Calls Tryz.prog 178 #[.agg #[sl, mp, rdF nb wb], tk4 x] V fun e w' => e = .returned (.int .i64 V0) ∧ Below V.heap.size V w') := fun V hV => by
  rw [← hV0]
  exact tid_ok (HR.out V hV) (Nat.le_trans hM hV.size) nb wb x.1 x.2.2.1 x.2.2.2 x.2.1 ht hp0 hin
 have HX : Hid (∀ V, JS nb wb w.heap.size l i sl mp w V false → Calls Tryz.prog 93 #[.func (.func 179) #[] #[], .pointer (some ⟨nb, 0, none⟩), .pointer (some ⟨wb, 0, none⟩)] V fun e w' => e = .returned (tk4 x) ∧ JS nb wb w.heap.size l i sl mp w w' true) := fun V hV => (tk_sign hV.tk x hx hl hk hs ht).mono (by
  rintro e w' ⟨rfl, h1, h2⟩
  exact ⟨rfl, h1, hV.rd.ob h2 (by omega), hV.ob.trans h2⟩)
 rw [hV0]
 clear hR h hr1 hx hin hV0 hb1
 unfold rdF at hW1 ⊢
 go_enter Tryz.func151, Tryz.ntmps151
 go_wp2
 rename_i Q0 K0 hK
 refine wp_region_any hmx ?_
 refine zwt (G := (Unit)) (fun g i__ => ([(.agg #[sl, mp, rdF nb wb]), (.pointer (some ⟨w.heap.size, 2, none⟩)), (rdF nb wb), (tk4 x), (.int .i64 V0), (.int .i64 V0)] : List Value).getD i__ undef) (fun _ d V => JS nb wb w.heap.size l i sl mp w V (d 3)) (by kernel_rfl) (()) (hj.out.carry (Below.refl _ _).drew) ?step4 ?fin4
 case step4 =>
  intro i o ho
  have hi : i < 6 := getElem?_lt ho
  match i, hi, ho with
  | 0, _, ho => cases ho; exact zgo fun g d hdep => zld rfl trivial _ _ _ rfl rfl (fun v hw => load_rd hw.rd)
  | 1, _, ho => cases ho; exact zgo fun g d hdep => zfa rfl trivial _ _ _ _ rfl rfl (fun v hw => field_rd v _)
  | 2, _, ho => cases ho; exact zgo fun g d hdep => zld rfl trivial _ _ _ rfl rfl (fun v hw => load_tkr hw.rd)
  | 3, _, ho => cases ho; exact stepG_callv rfl (fun _ => trivial) 93 _ _ _ #[.pointer (some ⟨nb, 0, none⟩), .pointer (some ⟨wb, 0, none⟩)] (fun _ => [.func (.func 179) #[] #[]]) rfl (fun g => by kernel_rfl) (fun g => by kernel_rfl) (enters_of Tryz.func93 (by kernel_rfl) rfl) (fun g d V hJ hun hdep hcl => by rw [hun] at hJ; exact (HX.out V hJ).mono (by rintro e w' ⟨rfl, hb'⟩; exact ⟨(), rfl, (fun _ _ => rfl), hb'⟩))
  | 4, _, ho => cases ho; exact stepG_call rfl (fun _ => trivial) 178 _ _ (fun _ => [.agg #[sl, mp, rdF nb wb], tk4 x]) rfl (fun g => by kernel_rfl) (enters_of Tryz.func178 (by kernel_rfl) rfl) (fun g d V hJ hun hdep hcl => (HT.out V hJ.ob).mono (by rintro e w' ⟨rfl, hb'⟩; exact ⟨(), rfl, (fun _ _ => rfl), hJ.carry hb'⟩))
  | 5, _, ho => cases ho; exact zgo fun g d hdep => zas rfl trivial _ rfl (by kernel_rfl) (fun _ h => h)
 intro g d W hall hW
 first | refine hK _ _ ?_ | refine (‹∀ (a : Act) (w : World), Code.wp Tryz.prog _ _ a w → _›) _ _ ?_ | skip
 simp only [finL, List.getD_cons_zero, List.getD_cons_succ, Nat.zero_add, Nat.reduceAdd, List.setIfInBounds_toArray, List.set_cons_zero, List.set_cons_succ]
 have hjW : JS nb wb w.heap.size l i sl mp w W true := by have := hW; rw [hall 3 (by decide)] at this; exact this
 clear hW hall hK
 go_wp2
 go_ret
 exact ⟨rfl, hjW.tk, hjW.ob⟩
theorem box_word (u : World) (x : Tk4) : ∃ u2 u3, u.alloc (.cells #[.int .i64 0, .string ⟨#[]⟩, .int .i64 0, .int .i64 0] 48) = u2 ∧ u2.setRow u.heap.size (tkC x) = u3 ∧ u2.heap[u.heap.size]? = some (.cells #[.int .i64 0, .string ⟨#[]⟩, .int .i64 0, .int .i64 0] 48 (0, 0)) ∧ u3.heap[u.heap.size]? = some (.cells (tkC x) 48 (0, 0)) ∧ Below u.heap.size u u3 ∧ u3.heap.size = u.heap.size + 1 := by
 refine ⟨_, _, rfl, rfl, zna rfl, setRow_heap _ _ _ _ _ _ (zna rfl), ?_, by simp [World.setRow]⟩
 exact ⟨rfl, rfl, rfl, by simp [World.setRow], fun q hq => (Go.setRow_other _ _ _ _ (by omega)).trans ((al1t u _).block q hq)⟩
theorem Tk.move {nb wb : Nat} {l : List Tk4} {i j : Nat} {w u V : World} (h0 : Tk nb wb l i w) (h : Tk nb wb l j u) (ho : Ob nb w V) (hn : V.heap[nb]? = u.heap[nb]?) : Tk nb wb l j V := by
 obtain ⟨ad, cap, h1, h2, h3⟩ := h0.wd
 have hne : wb ≠ nb := fun e => by
  have := h0.nx
  rw [← e, h1] at this
  simp only [Option.some.injEq, Obj.cells.injEq] at this
  exact absurd this.2.1 (by decide)
 exact ⟨hn.trans h.nx, ad, cap, (ho.block wb (zla h1) hne).trans h1, h2.at ho.size (fun b off e hb => ho.block b hb (h3 b off e)), h3⟩
theorem isSet_any (k l c : Int) (t : ByteArray) (w : World) : Calls Tryz.prog 185 #[tkV k t l c] w fun e w' => e = .returned (.bool (k == 2 || (k == 5 && t.toList == [45]))) ∧ Below w.heap.size w w' := by
 have h2 := isMark_any k l c t ⟨#[45]⟩
 rw [show (⟨#[45]⟩ : ByteArray).toList = [45] by kernel_rfl] at h2
 obtain ⟨q, hq⟩ : ∃ q, (k == 5 && t.toList == [45]) = q := ⟨_, rfl⟩
 rw [hq] at h2 ⊢
 clear hq
 unfold tkV at h2 ⊢
 have hb0 := al1t w (.cells #[.int .i64 k, .string t, .int .i64 l, .int .i64 c] 48)
 cases hk : (k == 2) with
 | true =>
  go_enter Tryz.func185, Tryz.ntmps185
  go_wp2
  go_ret
  exact ⟨rfl, hb0⟩
 | false =>
  go_enter Tryz.func185, Tryz.ntmps185
  go_wp2_with (go_at_call 206; (with_reducible refine (h2 _).mono ?_); rintro e u1 ⟨rfl, hb1⟩)
  go_ret
  exact ⟨rfl, hb0.trans (hb1.mono hb0.size)⟩
theorem isNoticeMark_any (k l c : Int) (t : ByteArray) (w : World) : Calls Tryz.prog 207 #[tkV k t l c] w fun e w' => e = .returned (.bool ((k == 5 && t.toList == [63]) || (k == 5 && t.toList == [33]))) ∧ Below w.heap.size w w' := by
 have h1 := isMark_any k l c t ⟨#[63]⟩
 have h2 := isMark_any k l c t ⟨#[33]⟩
 rw [show (⟨#[63]⟩ : ByteArray).toList = [63] by kernel_rfl] at h1
 rw [show (⟨#[33]⟩ : ByteArray).toList = [33] by kernel_rfl] at h2
 obtain ⟨p, hp⟩ : ∃ p, (k == 5 && t.toList == [63]) = p := ⟨_, rfl⟩
 obtain ⟨q, hq⟩ : ∃ q, (k == 5 && t.toList == [33]) = q := ⟨_, rfl⟩
 rw [hp] at h1 ⊢
 rw [hq] at h2 ⊢
 clear hp hq
 unfold tkV at h1 h2 ⊢
 have hb0 := al1t w (.cells #[.int .i64 k, .string t, .int .i64 l, .int .i64 c] 48)
 cases p with
 | true =>
  go_enter Tryz.func207, Tryz.ntmps207
  go_wp2_with (go_at_call 206; (with_reducible refine (h1 _).mono ?_); rintro e u1 ⟨rfl, hb1⟩)
  go_ret
  exact ⟨rfl, hb0.trans (hb1.mono hb0.size)⟩
 | false =>
  obtain ⟨w1, hw1⟩ : ∃ w1, w.alloc (.cells #[.int .i64 k, .string t, .int .i64 l, .int .i64 c] 48) = w1 := ⟨_, rfl⟩
  have hr1 : w1.heap[w.heap.size]? = some (.cells #[.int .i64 k, .string t, .int .i64 l, .int .i64 c] 48 (0, 0)) := by rw [← hw1]; exact zna rfl
  rw [hw1] at hb0
  have a0 : w1.cell? ⟨w.heap.size, 0, none⟩ = some (.int .i64 k) := (zca hr1 0).trans rfl
  have a1 : w1.cell? ⟨w.heap.size, 1, none⟩ = some (.string t) := (zca hr1 1).trans rfl
  have a2 : w1.cell? ⟨w.heap.size, 2, none⟩ = some (.int .i64 l) := (zca hr1 2).trans rfl
  have a3 : w1.cell? ⟨w.heap.size, 3, none⟩ = some (.int .i64 c) := (zca hr1 3).trans rfl
  go_enter Tryz.func207, Tryz.ntmps207
  go_wp2_with (first
   | (go_at_call 206; (have hzz := hb1); (with_reducible refine (h2 _).mono ?_); rintro e u2 ⟨rfl, hb2⟩)
   | (go_at_call 206; (with_reducible refine (h1 _).mono ?_); rintro e u1 ⟨rfl, hb1⟩; have hr2 := (hb1.block _ (zla hr1)).trans hr1; have b0 : u1.cell? ⟨w.heap.size, 0, none⟩ = some (.int .i64 k) := (zca hr2 0).trans rfl; have b1 : u1.cell? ⟨w.heap.size, 1, none⟩ = some (.string t) := (zca hr2 1).trans rfl; have b2 : u1.cell? ⟨w.heap.size, 2, none⟩ = some (.int .i64 l) := (zca hr2 2).trans rfl; have b3 : u1.cell? ⟨w.heap.size, 3, none⟩ = some (.int .i64 c) := (zca hr2 3).trans rfl))
  go_ret
  have hb01 := hb0.trans (hb1.mono hb0.size)
  exact ⟨rfl, hb01.trans (hb2.mono hb01.size)⟩
theorem tk_of {nb wb : Nat} {l : List Tk4} {i : Nat} {w : World} (f : FuncId) (hen : ∀ args w, (callFunc f args).run Tryz.prog w = .ok (.enter f args) w) (h : Tk nb wb l i w) (x : Tk4) (hx : l[i]? = some x) (hl : l.length ≤ 1000000) (b : Bool) (hf : ∀ V, Calls Tryz.prog f #[tkV x.1 x.2.1 x.2.2.1 x.2.2.2] V fun e w' => e = .returned (.bool b) ∧ Below V.heap.size V w') (hb : b = true) : Calls Tryz.prog 93 #[.func (.func f) #[] #[], .pointer (some ⟨nb, 0, none⟩), .pointer (some ⟨wb, 0, none⟩)] w fun e w' => e = .returned (.agg (tkC x)) ∧ Tk nb wb l (i + 1) w' ∧ Ob nb w w' := by
 subst hb
 exact take_yes f #[] hen h x hx hl (fun V _ => hf V)
theorem round_ok {sl mp : Value} {nb wb : Nat} {l : List Tk4} {i : Nat} {w : World} (h : Tk nb wb l i w) (x : Tk4) (hx : l[i]? = some x) (hl : l.length ≤ 1000000) (hk : x.1 = 3) (ht : x.2.1.size ≤ maxLen) (v : Nat) (hv : numR x.2.1 = some v) (h1 : 1 ≤ v) (h2 : v ≤ 1099511627775) : Calls Tryz.prog 152 #[.agg #[sl, mp, rdF nb wb]] w fun e w' => e = .returned (.int .i64 (v : Int)) ∧ Tk nb wb l (i + 1) w' ∧ Ob nb w w' := by
 obtain ⟨W1, hW1⟩ : ∃ W1, w.alloc (.cells #[sl, mp, rdF nb wb] 86) = W1 := ⟨_, rfl⟩
 have hb1 : Below w.heap.size w W1 := by rw [← hW1]; exact al1t _ _
 have hr1 : W1.heap[w.heap.size]? = some (.cells #[sl, mp, rdF nb wb] 86 (0, 0)) := by rw [← hW1]; exact zna rfl
 have HK := tk_of (w := W1) 180 (enters_of Tryz.func180 (by kernel_rfl) rfl) (h.carry hb1) x hx hl _ (isNumber_any _ _ _ _) (by rw [hk]; rfl)
 have HN := number_any x.2.1 ht
 rw [hv] at HN
 unfold numV at HN
 dsimp only at HN
 have HF := trefuse_no 73 x.1 x.2.2.1 x.2.2.2 x.2.1
 unfold tkV at HF
 have hnb := zla h.nx
 have d1 : decide ((v : Int) < 1) = false := decide_eq_false (by omega)
 have d2 : decide (1099511627775 < (v : Int)) = false := decide_eq_false (by omega)
 have c2 : W1.cell? ⟨w.heap.size, 2, none⟩ = some (rdF nb wb) := (zca hr1 2).trans rfl
 unfold rdF at c2 hW1 ⊢
 clear h hx hv h1 h2 hk
 unfold tkC at HK
 go_enter Tryz.func152, Tryz.ntmps152
 go_wp2_with (first
  | (go_at_call 94; (with_reducible refine (HF _).mono ?_); rintro e u5 ⟨rfl, hb5⟩)
  | (go_at_call 107; (with_reducible refine (HN _).mono ?_); rintro e u4 ⟨rfl, hb4⟩; (have r4 := (hb4.block _ (zla hr3)).trans hr3); (have t0 : u4.cell? ⟨u.heap.size, 0, none⟩ = some (.int .i64 x.1) := (zca r4 0).trans rfl); (have t1 : u4.cell? ⟨u.heap.size, 1, none⟩ = some (.string x.2.1) := (zca r4 1).trans rfl); (have t2 : u4.cell? ⟨u.heap.size, 2, none⟩ = some (.int .i64 x.2.2.1) := (zca r4 2).trans rfl); (have t3 : u4.cell? ⟨u.heap.size, 3, none⟩ = some (.int .i64 x.2.2.2) := (zca r4 3).trans rfl))
  | (refine wpList_store_row rfl 48 (.tmp 3) (.tmp 8) rfl u.heap.size (tkC x) rfl rfl 48 _ hr2 infoTk rfl (by simp [tkC, Value.oneCell']) ?_; rw [hu3]; (have p1 : u3.cell? ⟨u.heap.size, 1, none⟩ = some (.string x.2.1) := (zca hr3 1).trans rfl))
  | (go_at_call 93; (with_reducible refine HK.mono ?_); rintro e u ⟨rfl, hT, hO⟩; obtain ⟨u2, u3, hu2, hu3, hr2, hr3, hb3, hs3⟩ := box_word u x))
 go_ret
 have q1 : Below u.heap.size u u5 := bel3 (bel3 hb3 hb4) hb5
 exact ⟨rfl, hT.carry q1, (Ob.of hb1).trans (hO.trans (Ob.of q1))⟩
theorem heard_ok {M : Nat} {sl mp : Value} {L : List Int} {nb wb : Nat} {l : List Tk4} {i : Nat} {w : World} (hR : Ros M w (.agg #[sl, mp]) L) (hMn : M ≤ nb) (hM : M ≤ w.heap.size) (h : Tk nb wb l i w) (x : Tk4) (hx : l[i]? = some x) (hl : l.length ≤ 1000000) (hk : (x.1 == 2 || (x.1 == 5 && x.2.1.toList == [45])) = true) (ht : x.2.1.size ≤ maxLen) (N : Nat) (hN : parseR L x.2.1 = (N, 0, 0)) : Calls Tryz.prog 154 #[.agg #[sl, mp, rdF nb wb]] w fun e w' => e = .returned (sv N) ∧ Tk nb wb l (i + 1) w' ∧ Ob nb w w' := by
 obtain ⟨W1, hW1⟩ : ∃ W1, w.alloc (.cells #[sl, mp, rdF nb wb] 86) = W1 := ⟨_, rfl⟩
 have hb1 : Below w.heap.size w W1 := by rw [← hW1]; exact al1t _ _
 have hr1 : W1.heap[w.heap.size]? = some (.cells #[sl, mp, rdF nb wb] 86 (0, 0)) := by rw [← hW1]; exact zna rfl
 obtain ⟨W2, hW2⟩ : ∃ W2, W1.alloc (.cells #[.int .u32 0, .int .u32 0, .int .u32 0, .int .u32 0] 36) = W2 := ⟨_, rfl⟩
 have hb2 : Below W1.heap.size W1 W2 := by rw [← hW2]; exact al1t _ _
 have hr2' : W2.heap[W1.heap.size]? = some (.cells #[.int .u32 0, .int .u32 0, .int .u32 0, .int .u32 0] 36 (0, 0)) := by rw [← hW2]; exact zna rfl
 have hr1' := (hb2.block _ (zla hr1)).trans hr1
 have hb02 := bel3 hb1 hb2
 have HK := tk_of (w := W2) 185 (enters_of Tryz.func185 (by kernel_rfl) rfl) (h.carry hb02) x hx hl _ (isSet_any _ _ _ _) hk
 have HP : Hid (∀ V, Ob nb w V → Calls Tryz.prog 186 #[.agg #[sl, mp], .string x.2.1] V fun e w' => e = .returned (.tuple #[sv N, .int .i64 0, .int .i64 0]) ∧ Below V.heap.size V w') := fun V hV => by
  have := parse_any V (hR.ob hV hMn hM) (Nat.le_trans hM hV.size) x.2.1 ht
  rw [hN] at this
  exact this
 have HF : ∀ c, Calls Tryz.prog 94 #[.bool false, .int .i64 0, .agg #[.int .i64 x.1, .string x.2.1, .int .i64 x.2.2.1, .int .i64 x.2.2.2]] c fun en w' => en = .returned (.tuple #[]) ∧ Below c.heap.size c w' := trefuse_no 0 x.1 x.2.2.1 x.2.2.2 x.2.1
 have hnb := zla h.nx
 have h0 : Hid (Tk nb wb l i w) := h
 have hs1 := hb1.size
 have hs2 := hb2.size
 have hl1 := zla hr1
 have hl2 := zla hr2'
 have c2 : W2.cell? ⟨w.heap.size, 2, none⟩ = some (rdF nb wb) := (zca hr1' 2).trans rfl
 unfold rdF at c2 hW1 ⊢
 clear h hx hN hR hk
 unfold tkC at HK
 unfold sv at HP ⊢
 go_enter Tryz.func154, Tryz.ntmps154
 go_wp2_with (first
  | (go_at_call 94; (with_reducible refine (HF _).mono ?_); rintro e u6 ⟨rfl, hb6⟩; (have s6 := (hb6.block _ (zla s5)).trans s5); (have y0 : u6.cell? ⟨u4.heap.size, 0, none⟩ = some (.int .u32 (wd N 0 : Nat)) := (zca s6 0).trans rfl); (have y1 : u6.cell? ⟨u4.heap.size, 1, none⟩ = some (.int .u32 (wd N 1 : Nat)) := (zca s6 1).trans rfl); (have y2 : u6.cell? ⟨u4.heap.size, 2, none⟩ = some (.int .u32 (wd N 2 : Nat)) := (zca s6 2).trans rfl); (have y3 : u6.cell? ⟨u4.heap.size, 3, none⟩ = some (.int .u32 (wd N 3 : Nat)) := (zca s6 3).trans rfl); (have hb46 := bel3 (bel3 hb4 hb5) hb6); (have q : Hid (Zh4 u6 W1.heap.size (fun _ => 0)) := (hb46.block _ (by omega)).trans ((hb3.block _ (by omega)).trans ((hO.block _ (by omega) (by omega)).trans hr2'))); obtain ⟨k0, k1, k2, k3, z0, z1, z2, z3⟩ := q.out.facts)
  | (go_at_call 186; (with_reducible refine (HP.out _ hO3).mono ?_); rintro e u4 ⟨rfl, hb4⟩; (have r4 := (hb4.block _ (zla hr3)).trans hr3); obtain ⟨u5, hu5⟩ : ∃ u5, u4.alloc (.cells #[.int .u32 (wd N 0 : Nat), .int .u32 (wd N 1 : Nat), .int .u32 (wd N 2 : Nat), .int .u32 (wd N 3 : Nat)] 36) = u5 := ⟨_, rfl⟩; (have hb5 : Below u4.heap.size u4 u5 := by rw [← hu5]; exact al1t _ _); (have s5 : u5.heap[u4.heap.size]? = some (.cells #[.int .u32 (wd N 0 : Nat), .int .u32 (wd N 1 : Nat), .int .u32 (wd N 2 : Nat), .int .u32 (wd N 3 : Nat)] 36 (0, 0)) := by rw [← hu5]; exact zna rfl); (have r5 := (hb5.block _ (zla r4)).trans r4); (have t0 : u5.cell? ⟨u.heap.size, 0, none⟩ = some (.int .i64 x.1) := (zca r5 0).trans rfl); (have t1 : u5.cell? ⟨u.heap.size, 1, none⟩ = some (.string x.2.1) := (zca r5 1).trans rfl); (have t2 : u5.cell? ⟨u.heap.size, 2, none⟩ = some (.int .i64 x.2.2.1) := (zca r5 2).trans rfl); (have t3 : u5.cell? ⟨u.heap.size, 3, none⟩ = some (.int .i64 x.2.2.2) := (zca r5 3).trans rfl))
  | (refine wpList_store_row rfl 48 (.tmp 3) (.tmp 9) rfl u.heap.size (tkC x) rfl rfl 48 _ hr2 infoTk rfl (by simp [tkC, Value.oneCell']) ?_; rw [hu3]; (have p1 : u3.cell? ⟨u.heap.size, 1, none⟩ = some (.string x.2.1) := (zca hr3 1).trans rfl); (have hO3 : Ob nb w u3 := (Ob.of hb02).trans (hO.trans (Ob.of hb3))); (have rr := (hb3.block _ (by omega)).trans ((hO.block _ (by omega) (by omega)).trans hr1')); (have z0 : u3.cell? ⟨w.heap.size, 0, none⟩ = some sl := (zca rr 0).trans rfl); (have z1 : u3.cell? ⟨w.heap.size, 1, none⟩ = some mp := (zca rr 1).trans rfl))
  | (go_at_call 93; (with_reducible refine HK.mono ?_); rintro e u ⟨rfl, hT, hO⟩; (have hOs := hO.size); obtain ⟨u2, u3, hu2, hu3, hr2, hr3, hb3, hs3⟩ := box_word u x))
 have hs46 := hb46.size
 have hO6 : Ob nb w u6 := hO3.trans (Ob.of hb46)
 have hb36 := bel3 hb3 hb46
 refine ret4 rfl rfl rfl (fin4 q.out _) ⟨rfl, ?_⟩
 have hO7 : Ob nb w (set4 u6 W1.heap.size N) := ⟨hO6.os, hO6.tape, hO6.output, Nat.le_trans hO6.size (by simp [set4]), fun r g1 g2 => (set4_other _ _ _ _ (by omega)).trans (hO6.block r g1 g2)⟩
 exact ⟨h0.out.move hT hO7 ((set4_other _ _ _ _ (by omega)).trans (hb36.block nb (by omega))), hO7⟩
end Go.Proofs.YtmahamdmapbilaaGreatDoor
