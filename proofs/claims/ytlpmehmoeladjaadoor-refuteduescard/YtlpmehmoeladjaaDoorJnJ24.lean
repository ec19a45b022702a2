/- Books and the sets and lists beside them; what is taken twice. -/
import Derived.Test.YtlpmehmoeladjaaDoorJnJ10
import Derived.Test.YtlpmehmoeladjaaDoorJnJ11
import Derived.Test.YtlpmehmoeladjaaDoorJnJ23
import Derived.Test.YtlpmehmoeladjaaDoorJnJ21
import Derived.Test.YtlpmehmoeladjaaDoorJnJ7
import Derived.Test.YtlpmehmoeladjaaDoorJnJ8
namespace Go.Proofs.YtlpmehmoeladjaaDoor
open Go.RowKit Go.Shelf Go.Lib

theorem Holds4.turn {W V : World} {p g b : Nat} {c : Nat → Nat} {l : List N3} (hs : Holds4 W b c) (h : Bk W p g l) (hg : W.grownBy V (some g)) : Holds4 V b c :=
  (hg.block _ (lt_at hs) (by simpa using (h.ne4 hs).2.symm)).trans hs
theorem filter_all (l : List N3) : l.filter pAll = l := List.filter_eq_self.2 (fun _ _ => rfl)
/-- A list that was made, read. -/
theorem Made.rd {w W : World} {v : Value} {l : List N3} (h : Made w W v l) : ∃ ad cap, v = .slice ad l.length cap ∧ RdN W ad l ∧ (∀ a, ad = some a → w.heap.size ≤ a.block) := by
  unfold Made at h
  rcases own_form h with ⟨rfl, e⟩ | ⟨g, cap, rfl, h1, h2, h3⟩
  · refine ⟨none, 0, by rw [e], fun hn => ?_, fun a ha => by cases ha⟩
    exact absurd (List.eq_nil_of_length_eq_zero e) hn
  · exact ⟨some ⟨g, 0, none⟩, cap, rfl, fun _ => ⟨g, 0, rfl, h2, nts_own h rfl⟩, fun a ha => by obtain rfl := Option.some.inj ha; exact h1⟩
theorem sv_zero : sv 0 = .agg #[.int .u32 0, .int .u32 0, .int .u32 0, .int .u32 0] := by simp [sv, wd_zero]
/-- What is merged twice is merged once. -/
theorem bat_after {l m : List N3} (hb : Bok l) (h : m.all (vlx l.length) = true) : ∀ x ∈ m, bat (mrg l m) x = false := by
  intro x hx
  have hv := List.all_eq_true.1 h x hx
  have hl := mrg_len hb m
  rw [bat_iff (mrg_bok hb m) (by rw [hl]; exact hv), mrg_rk hb h]
  have := fold_upr_mem l.length m (rkl l x.1.toNat) x hx hv
  exact decide_eq_false (by omega)
theorem fold_still1 : ∀ (m : List N3) {l : List N3}, (∀ x ∈ m, bat l x = false) → m.foldl rse l = l
  | [], _, _ => rfl
  | x :: m, l, h => by
    have e : rse l x = l := if_neg (by rw [h x (by simp)]; decide)
    rw [List.foldl_cons, e]
    exact fold_still1 m (fun y hy => h y (by simp [hy]))
theorem still {l m : List N3} (h : ∀ x ∈ m, bat l x = false) : mrs l m = 0 ∧ mrg l m = l := by
  unfold mrs mrg
  rw [fold_still m 0 h, fold_still1 m h]
  constructor <;> split <;> rfl
theorem twice {l : List N3} (hb : Bok l) (m : List N3) : mrs (mrg l m) m = 0 ∧ mrg (mrg l m) m = mrg l m := by
  by_cases h : m.all (vlx l.length) = true
  · exact still (bat_after hb h)
  · have e : mrg l m = l := if_neg h
    rw [e]
    exact ⟨if_neg h, e⟩
theorem own_list {l : List N3} (hb : Bok l) (h1 : 1 ≤ l.length) (h2 : l.length ≤ 100) : l.all (vlx l.length) = true ∧ ∀ x ∈ l, bat l x = false := by
  have hv : ∀ x ∈ l, vlx l.length x = true := by
    intro x hx
    obtain ⟨i, hi⟩ := List.mem_iff_getElem?.1 hx
    obtain ⟨e, hr⟩ := hb i x hi
    have := (List.getElem?_eq_some_iff.1 hi).1
    exact vlx_iff.2 ⟨h1, h2, by omega, by omega, hr⟩
  refine ⟨List.all_eq_true.2 hv, fun x hx => ?_⟩
  rw [bat_iff hb (hv x hx)]
  obtain ⟨i, hi⟩ := List.mem_iff_getElem?.1 hx
  obtain ⟨e, _⟩ := hb i x hi
  rw [show x.1.toNat = i by omega, rkl_some hi]
  exact decide_eq_false (by omega)
theorem fold_tke_still : ∀ (m : List N3) {l : List N3}, (∀ x ∈ m, bat l x = false) → m.foldl tke l = l
  | [], _, _ => rfl
  | x :: m, l, h => by
    have e : tke l x = l := by
      unfold tke
      split
      · exact if_neg (by rw [h x (by simp)]; decide)
      · rfl
    rw [List.foldl_cons, e]
    exact fold_tke_still m (fun y hy => h y (by simp [hy]))
/-- Two books and two sets. -/
structure JT (w : World) (L : List (Nat × Nat × List N3)) (bs bt : Nat) (W : World) : Prop where
  books : Bks w L W
  one : Holds4 W bs (wd 0)
  two : Holds4 W bt (wd 0)
theorem JT.carry {w W V : World} {L : List (Nat × Nat × List N3)} {bs bt : Nat} (h : JT w L bs bt W) (hb : Below W.heap.size W V) : JT w L bs bt V := ⟨h.books.carry hb, h.one.carry hb, h.two.carry hb⟩
theorem JT.turn {w W V : World} {L : List (Nat × Nat × List N3)} {bs bt : Nat} (h : JT w L bs bt W) (i : Nat) {p g : Nat} {l l' : List N3} (hi : L[i]? = some (p, g, l)) (hk : Bk V p g l') (hg : W.grownBy V (some g)) : JT w (L.set i (p, g, l')) bs bt V :=
  ⟨h.books.turn i hi hk hg, h.one.turn (h.books.get i hi) hg, h.two.turn (h.books.get i hi) hg⟩
end Go.Proofs.YtlpmehmoeladjaaDoor
namespace Go.Proofs.YtlpmehmoeladjaaDoor
open Go.RowKit Go.Shelf Go.Lib
attribute [local go_sem] Oper.semAt_some

theorem load_pv {W : World} {bx : Nat} {a : Option Addr} (h : W.heap[bx]? = some (.cells #[.pointer a] 29 (0, 0))) : (Instr.loadAt 29 (.pointer (some ⟨bx, 0, none⟩))).run Tryd.prog W = .ok (.pointer a) W := by
  have c0 := cell_at h 0
  simp at c0
  go_simp
set_option maxHeartbeats 4000000 in
set_option maxRecDepth 100000 in
theorem emerge_any {w : World} {a : Option Addr} (h : EB w (.pointer a)) (ad : Option Addr) (cap : Nat) (l : List N3) (hl : RdN w ad l) : Calls Tryd.prog 11 #[.pointer a, .slice ad l.length cap] w fun e w' => e = .returned (.tuple #[sv 0, .int .i64 (if 0 < l.length then 50 else 0)]) ∧ Below w.heap.size w w' := by
  have hmx : Tryd.prog.follows .mixedOrders = true := by kernel_rfl
  have hb0 := al2 w (.cells #[.pointer a] 29) (.cells #[.int .u32 0, .int .u32 0, .int .u32 0, .int .u32 0] 35)
  have hbx : ((w.alloc (.cells #[.pointer a] 29)).alloc (.cells #[.int .u32 0, .int .u32 0, .int .u32 0, .int .u32 0] 35)).heap[w.heap.size]? = some (.cells #[.pointer a] 29 (0, 0)) := old_at (new_at rfl)
  have hrs : Holds4 ((w.alloc (.cells #[.pointer a] 29)).alloc (.cells #[.int .u32 0, .int .u32 0, .int .u32 0, .int .u32 0] 35)) (w.heap.size + 1) (fun _ => 0) := new_at (by simp)
  cases l with
  | nil =>
    go_enter Tryd.func11, Tryd.ntmps11
    go_wp2
    refine wp_loop_once ?_
    go_wp2
    refine wp_loop_once ?_
    have HR : Hid (Holds4 (((w.alloc (.cells #[.pointer a] 29)).alloc (.cells #[.int .u32 0, .int .u32 0, .int .u32 0, .int .u32 0] 35)).alloc (.cells #[.int .u32 0, .int .u32 0, .int .u32 0, .int .u32 0] 35)) (w.heap.size + 1) (fun _ => 0)) := hrs.carry (al1 _ _)
    obtain ⟨y0, y1, y2, y3, z0, z1, z2, z3⟩ := HR.out.facts
    clear hrs
    go_wp2
    exact ret4t (M := 0) (x := .int .i64 0) rfl rfl rfl rfl (HR.out.congr (fun j _ => (wd_zero j).symm)) ⟨rfl, al3 _ _ _ _⟩
  | cons x r =>
    obtain ⟨o, t, q⟩ := x
    obtain ⟨b, off, rfl, hbl, hat⟩ := hl (by simp)
    have hva := valid_any 0 o t q
    rw [show vl 0 o t q = false from decide_eq_false (by omega)] at hva
    have hat2 := hat.carry hbl hb0
    obtain ⟨c0, c1, c2⟩ := hat2 0 (o, t, q) rfl
    dsimp only at c0 c1 c2
    simp only [Nat.zero_mul, Nat.add_zero] at c0 c1 c2
    have heb := (h.carry hb0).carry (al1 _ (.cells #[.int .i64 o, .int .i64 t, .int .i64 q] 39))
    have hn1 := NB.new ((w.alloc (.cells #[.pointer a] 29)).alloc (.cells #[.int .u32 0, .int .u32 0, .int .u32 0, .int .u32 0] 35)) o t q
    simp only [World.size_alloc] at hn1
    have hb1 := hb0.alloc hb0.size (.cells #[.int .i64 o, .int .i64 t, .int .i64 q] 39)
    have hbx1 := old_at (o := .cells #[.int .i64 o, .int .i64 t, .int .i64 q] 39) hbx
    have hrs1 := hrs.carry (al1 _ (.cells #[.int .i64 o, .int .i64 t, .int .i64 q] 39))
    have hlp : (0 : Int) < ((r.length + 1 : Nat) : Int) := by omega
    have hbu : b < w.heap.size + 2 := by omega
    clear h hl hat hat2 hbx hrs hb0
    go_enter Tryd.func11, Tryd.ntmps11
    go_wp2
    refine wp_loop_once ?_
    go_wp2
    rename_i Q0 K0 hK
    refine wp_region_any hmx ?_
    refine wpAny_pure (fun i__ => ([(.pointer a), (.int .i64 0), (nt o t q), (.bool false), (.bool true)] : List Value).getD i__ undef) (fun V => NB V (w.heap.size + 1 + 1) o t q ∧ EB V (.pointer a) ∧ V.heap[w.heap.size]? = some (.cells #[.pointer a] 29 (0, 0)) ∧ Holds4 V (w.heap.size + 1) (fun _ => 0) ∧ Below w.heap.size w V) (by kernel_rfl) ⟨hn1.carry (Below.refl _ _).drew, heb.carry (Below.refl _ _).drew, hbx1, hrs1.carry (Below.refl _ _).drew, hb1.drew⟩ ?_ ?_
    · refine (stepsFrom_cons ?_ (stepsFrom_cons ?_ (stepsFrom_cons ?_ (stepsFrom_cons ?_ (stepsFrom_cons ?_ trivial)))))
      · exact step_load rfl trivial _ _ _ rfl rfl (fun w hw => load_pv hw.2.2.1)
      · exact step_call rfl trivial 34 _ _ [(.pointer a)] rfl (by kernel_rfl) (enters_of Tryd.func34 (by kernel_rfl) rfl) (fun w hw => (esize_any hw.2.1).mono (by rintro e w' ⟨rfl, hb⟩; exact ⟨rfl, hw.1.carry hb, hw.2.1.carry hb, (hb.block _ (lt_at hw.2.2.1)).trans hw.2.2.1, hw.2.2.2.1.carry hb, bel2 hw.2.2.2.2 hb⟩))
      · exact step_load rfl trivial _ _ _ rfl rfl (fun w hw => load_nt hw.1)
      · exact step_call rfl trivial 33 _ _ [(.int .i64 0), (nt o t q)] rfl (by kernel_rfl) (enters_of Tryd.func33 (by kernel_rfl) rfl) (fun w hw => (hva w).mono (by rintro e w' ⟨rfl, hb⟩; exact ⟨rfl, hw.1.carry hb, hw.2.1.carry hb, (hb.block _ (lt_at hw.2.2.1)).trans hw.2.2.1, hw.2.2.2.1.carry hb, bel2 hw.2.2.2.2 hb⟩))
      · exact step_unOp rfl trivial _ _ _ _ rfl rfl (fun w hw => un_not false w)
    intro W hW
    first | refine hK _ _ ?_ | refine (‹∀ (a : Act) (w : World), Code.wp Tryd.prog _ _ a w → _›) _ _ ?_
    simp only [finL, List.getD_cons_zero, List.getD_cons_succ, Nat.zero_add, Nat.reduceAdd, List.setIfInBounds_toArray, List.set_cons_zero, List.set_cons_succ]
    obtain ⟨_, _, _, hrs2, hb2⟩ := hW
    have HR : Hid (Holds4 W (w.heap.size + 1) (fun _ => 0)) := hrs2
    obtain ⟨y0, y1, y2, y3, z0, z1, z2, z3⟩ := HR.out.facts
    clear hK hrs2 hn1 heb hbx1 hrs1 hb1 hva c0 c1 c2
    go_wp2
    exact ret4t (M := 0) (x := .int .i64 50) rfl rfl rfl rfl (fin4 HR.out 0) ⟨rfl, below4 hb2 (by omega) 0⟩
set_option maxHeartbeats 4000000 in
set_option maxRecDepth 100000 in
theorem rDue_any {w : World} (ad : Option Addr) (n cap : Nat) (L : List N3) (h : RdN w ad L) (hn : L.length = n) (hbo : Bok L) (id : Int) : Calls Tryd.prog 27 #[.agg #[.slice ad n cap], .int .i64 id] w fun e w' => e = .returned (dueV (dueN L id)) ∧ Below w.heap.size w w' := by
  have hr1 : RB ((w.alloc (.cells #[.slice ad n cap] 61)).alloc (.cells #[.int .i64 0, .int .i64 0, .int .i64 0] 39)) w.heap.size (.slice ad n cap) := old_at (new_at rfl)
  have hn1 : NB ((w.alloc (.cells #[.slice ad n cap] 61)).alloc (.cells #[.int .i64 0, .int .i64 0, .int .i64 0] 39)) (w.heap.size + 1) 0 0 0 := NB.at 0 0 0 (by simp)
  have hb1 := al2 w (.cells #[.slice ad n cap] 61) (.cells #[.int .i64 0, .int .i64 0, .int .i64 0] 39)
  by_cases hr : 0 ≤ id ∧ id < (L.length : Int)
  case neg =>
    rw [dueN_out hr]
    have r0 := hr1.cell
    have c0 := hn1.c0
    have c1 := hn1.c1
    have c2 := hn1.c2
    have z0 := hn1.thaw 0
    have z1 := hn1.thaw 1
    have z2 := hn1.thaw 2
    unfold dueV
    by_cases h0 : id < 0
    · go_enter Tryd.func27, Tryd.ntmps27
      go_wp2
      exact retNt rfl rfl rfl rfl hn1 ⟨rfl, hb1⟩
    · have hge : (n : Int) ≤ id := by omega
      go_enter Tryd.func27, Tryd.ntmps27
      go_wp2
      exact retNt rfl rfl rfl rfl hn1 ⟨rfl, hb1⟩
  obtain ⟨i, rfl⟩ : ∃ i : Nat, id = (i : Int) := ⟨id.toNat, by omega⟩
  have hi : i < L.length := by omega
  obtain ⟨⟨o, t, k⟩, hx⟩ : ∃ x, L[i]? = some x := ⟨_, List.getElem?_eq_getElem hi⟩
  obtain ⟨ho, hrk⟩ := hbo i _ hx
  dsimp only at ho
  subst ho
  have ht : ¬ (t < 0 ∨ 1048576 < t) := fun e => hrk (rk_lo e)
  obtain ⟨b, off, rfl, hbl, hat⟩ := h (fun e => by rw [e] at hi; simp at hi)
  rw [dueN_in hx]
  have hge : ¬ (n : Int) ≤ (i : Int) := by omega
  have hlt : ¬ (i : Int) < 0 := by omega
  obtain ⟨d0, d1, d2⟩ := (hat.carry hbl hb1) i _ hx
  obtain ⟨w2, hw2⟩ : ∃ w2, ((w.alloc (.cells #[.slice (some ⟨b, off, none⟩) n cap] 61)).alloc (.cells #[.int .i64 0, .int .i64 0, .int .i64 0] 39)) = w2 := ⟨_, rfl⟩
  rw [hw2] at hr1 hn1 hb1 d0 d1 d2
  have hs2 : w2.heap.size = w.heap.size + 2 := by rw [← hw2]; simp
  obtain ⟨w3, hw3⟩ : ∃ w3, w2.alloc (.cells #[.int .i64 (i : Int), .int .i64 t, .int .i64 k] 39) = w3 := ⟨_, rfl⟩
  have hb3 : Below w2.heap.size w2 w3 := by rw [← hw3]; exact al1 _ _
  have hm3 : NB w3 w2.heap.size (i : Int) t k := by rw [← hw3]; exact NB.new _ _ _ _
  have hn3 := hn1.carry hb3
  have r0 := hr1.cell
  have e0 := hm3.c0
  have e1 := hm3.c1
  have e2 := hm3.c2
  rw [hs2] at e0 e1 e2
  have c0 := hn3.c0
  have c1 := hn3.c1
  have c2 := hn3.c2
  have z0 := hn3.thaw 0
  have z1 := hn3.thaw 1
  have z2 := hn3.thaw 2
  dsimp only at d0 d1 d2 ⊢
  have hbu : b < w.heap.size + 2 := by omega
  have hB : Below w.heap.size w w3 := bel2 hb1 hb3
  have hii : i < n := by omega
  have hw := i64_id (t + 1) (by omega) (by omega)
  clear hat h hx hn hr
  by_cases h2 : k = 2
  · by_cases h3 : t < 1048576
    · rw [if_pos ⟨h2, h3⟩]
      subst h2
      have h3' : ¬ (1048576 ≤ t) := by omega
      unfold dueV
      go_enter Tryd.func27, Tryd.ntmps27
      go_wp2
      exact retNt rfl rfl rfl rfl (hn3.set _ _ _) ⟨rfl, below3 hB (by omega) _ _ _⟩
    · rw [if_neg (fun e => h3 e.2)]
      subst h2
      have h3' : (1048576 ≤ t) := by omega
      unfold dueV
      go_enter Tryd.func27, Tryd.ntmps27
      go_wp2
      exact retNt rfl rfl rfl rfl (hn3.set 0 0 0) ⟨rfl, below3 hB (by omega) _ _ _⟩
  · rw [if_neg (fun e => h2 e.1)]
    have h2' : (k != 2) = true := by simpa using h2
    unfold dueV
    go_enter Tryd.func27, Tryd.ntmps27
    go_wp2
    exact retNt rfl rfl rfl rfl (hn3.set 0 0 0) ⟨rfl, below3 hB (by omega) _ _ _⟩
end Go.Proofs.YtlpmehmoeladjaaDoor
namespace Go.Proofs.YtlpmehmoeladjaaDoor
open Go.RowKit Go.Shelf Go.Lib

theorem Lv.raised {d : Dst} {n : Nat} {b : Bo} (h : Lv d n b) (hn : n ≤ 999999) {t : Int} (h1 : 1 ≤ t) (h2 : t ≤ 1048576) : ∃ n', n ≤ n' ∧ n' ≤ n + 1 ∧ Lv (dRa d b t).d n' (dRa d b t).b ∧ d.writes ≤ (dRa d b t).d.writes ∧ (dRa d b t).d.writes ≤ d.writes + 2 ∧ (((dRa d b t).e = 0 ∧ t ≤ (dRa d b t).b.ta ∧ b.ta ≤ (dRa d b t).b.ta) ∨ ((dRa d b t).e = 100 ∧ (dRa d b t).b = b ∧ (d.off = true ∨ d.fused = true))) := by
  have hta := h.ta
  obtain ⟨⟨m1, m2⟩, ⟨m3, m4⟩, m5, m6⟩ := h.may
  unfold dRa
  split
  · rename_i ho
    exact ⟨n, Nat.le_refl _, by omega, h, Int.le_refl _, by dsimp only; omega, .inr ⟨rfl, rfl, .inl ho⟩⟩
  rename_i ho
  have ho' : d.off = false := by simpa using ho
  rw [if_neg (by omega), if_neg (by omega)]
  split
  · rename_i hl
    exact ⟨n, Nat.le_refl _, by omega, h, Int.le_refl _, by dsimp only; omega, .inl ⟨rfl, hl, Int.le_refl _⟩⟩
  rename_i hl
  split
  · rename_i hg
    have hb := bT_ge (x := t - 1) (by omega)
    have hmay : May (rRa b t) := ⟨⟨m1, m2⟩, ⟨m3, m4⟩, by show 0 ≤ bT (t - 1); omega, hb.2⟩
    rcases h.ss.save ho' h.fz hmay (by omega) with ⟨s1, s2, s3, s4, s5⟩ | ⟨s1, s2, s3, s4, s5, s6, s7⟩
    · rw [if_pos s1]
      exact ⟨n + 1, by omega, Nat.le_refl _, ⟨s5, by omega, s4, hmay, h.ro, ⟨by dsimp only; omega, by show t ≤ bT (t - 1); omega⟩⟩, by dsimp only; omega, by dsimp only; omega, .inl ⟨rfl, Int.le_refl _, by dsimp only; omega⟩⟩
    · rw [if_neg (by rw [s1]; decide)]
      exact ⟨n, Nat.le_refl _, by omega, ⟨s7, h.n1, s6, h.may, h.ro, h.ta⟩, s4, by dsimp only; omega, .inr ⟨s1, rfl, .inr s3⟩⟩
  · rename_i hg
    exact ⟨n, Nat.le_refl _, by omega, ⟨h.ss, h.n1, h.fz, h.may, h.ro, ⟨by dsimp only; omega, by dsimp only; omega⟩⟩, Int.le_refl _, by dsimp only; omega, .inl ⟨rfl, Int.le_refl _, by dsimp only; omega⟩⟩
/-- boot.Open of a new disk. -/
theorem open0_any {V : World} {p : Nat} (hV : Dk V p d0) : Calls Tryd.prog 8 #[.pointer (some ⟨p, 0, none⟩)] V fun e w' => ∃ q, e = .returned (.tuple #[.pointer (some ⟨q, 0, none⟩), .int .i64 0]) ∧ V.heap.size ≤ q ∧ Bt w' q (some ⟨p, 0, none⟩) ⟨⟨1, 16, 4⟩, 0, 0⟩ ∧ Dk w' p (dOp d0).d ∧ Tp p V w' := by
  obtain ⟨a1, a2, a3, a4, a5, a6⟩ := op0
  exact (open_any hV (fun e => by cases e) (by decide) (by decide)).mono (by
      rintro e w' ⟨h1, _, h3, h4⟩
      obtain ⟨q, rfl, hq, hb⟩ := h1 a1
      rw [a2] at hb
      exact ⟨q, rfl, hq, hb, h3, h4⟩)
/-- A new book, whatever the numbers. -/
theorem new_bad {n self tag : Int} (hv : ¬ (¬ (n < 1 ∨ 100 < n) ∧ ¬ (self < 0 ∨ n ≤ self) ∧ ¬ (tag < 0 ∨ 1048576 < tag))) : ∃ E : Int, (E != 0) = true ∧ (∀ V, Calls Tryd.prog 9 #[.int .i64 n, .int .i64 self, .int .i64 tag] V fun e w' => e = .returned (.tuple #[.pointer none, .int .i64 E]) ∧ Below V.heap.size V w') := by
  refine ⟨if n < 1 ∨ 100 < n then 1 else if self < 0 ∨ n ≤ self then 30 else 50, by split; decide; split <;> decide, fun V => (new_any n self tag V).mono ?_⟩
  rintro e w' ⟨hb, h⟩
  refine ⟨?_, hb⟩
  split at h
  · rename_i h1; rw [if_pos h1]; exact h
  · rename_i h1
    rw [if_neg h1]
    split at h
    · rename_i h2; rw [if_pos h2]; exact h
    · rename_i h2
      rw [if_neg h2]
      split at h
      · exact h
      · rename_i h3; exact absurd ⟨h1, h2, h3⟩ hv
theorem new_ok {n self tag : Int} (v1 : ¬ (n < 1 ∨ 100 < n)) (v2 : ¬ (self < 0 ∨ n ≤ self)) (v3 : ¬ (tag < 0 ∨ 1048576 < tag)) (V : World) : Calls Tryd.prog 9 #[.int .i64 n, .int .i64 self, .int .i64 tag] V fun e w' => ∃ p g, e = .returned (.tuple #[.pointer (some ⟨p, 0, none⟩), .int .i64 0]) ∧ V.heap.size ≤ p ∧ V.heap.size ≤ g ∧ Bk w' p g (bk0 n.toNat self.toNat tag) ∧ Below V.heap.size V w' :=
  (new_any n self tag V).mono (by
    rintro e w' h
    obtain ⟨p, g, rfl, h1, h2, h3⟩ := h.ok v1 v2 v3
    exact ⟨p, g, rfl, h1, h2, h3, h.1⟩)
/-- A notice of a book. -/
theorem bok_at {l : List N3} (hb : Bok l) {i : Nat} (hi : i < l.length) : ∃ t k, l[i]? = some ((i : Int), t, k) ∧ rk t k ≠ -1 ∧ (k = 1 ∨ k = 2) ∧ 0 ≤ t ∧ t ≤ 1048576 := by
  obtain ⟨⟨o, t, k⟩, hx⟩ : ∃ x, l[i]? = some x := ⟨_, List.getElem?_eq_getElem hi⟩
  obtain ⟨ho, hr⟩ := hb i _ hx
  dsimp only at ho
  subst ho
  have hr' : rk t k ≠ -1 := hr
  have ht : ¬ (t < 0 ∨ 1048576 < t) := fun e => hr' (rk_lo e)
  refine ⟨t, k, hx, hr', ?_, by omega, by omega⟩
  by_cases h1 : k = 1
  · exact .inl h1
  · by_cases h2 : k = 2
    · exact .inr h2
    · exact absurd (rk_n h1 h2) hr'
/-- What is taken, of what is due: the book's own notice is put. -/
theorem tke_due {l : List N3} {i : Nat} {x : N3} (hb : Bok l) (hl : l.length ≤ 100) (h : dueN l (i : Int) = some x) : (tke l x)[i]? = some x ∧ Bok (tke l x) ∧ (tke l x).length = l.length := by
  obtain ⟨htk, hx1, _, hi, _⟩ := due_tk hb hl h
  have hi' : i < l.length := by omega
  refine ⟨?_, tke_bok hb x, tke_len l x⟩
  unfold tkb at htk
  rw [Bool.and_eq_true] at htk
  unfold tke
  rw [if_pos htk.1]
  unfold rse
  rw [if_pos htk.2, hx1, Int.toNat_natCast]
  simp [hi']
end Go.Proofs.YtlpmehmoeladjaaDoor
