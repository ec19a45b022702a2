/- idset.Has, Of; alive: what they answer, at every input. -/
import Derived.Test.YtoplegfibdmjeaaDoorOrd
namespace Go.Proofs.YtoplegfibdmjeaaDoor
open Go.RowKit Go.Shelf Go.Lib

theorem and_bit (x i : Nat) : (x &&& 2 ^ i != 0) = x.testBit i := by
  cases h : x.testBit i with
  | true =>
    have : (x &&& 2 ^ i).testBit i = true := by rw [Nat.testBit_and, h, Nat.testBit_two_pow_self]; rfl
    have h2 : x &&& 2 ^ i ≠ 0 := fun e => by rw [e, Nat.zero_testBit] at this; cases this
    simpa using h2
  | false =>
    have : x &&& 2 ^ i = 0 := by
      apply Nat.eq_of_testBit_eq; intro j
      rw [Nat.testBit_and, Nat.testBit_two_pow, Nat.zero_testBit]
      by_cases e : i = j
      · subst e; rw [h]; rfl
      · simp [e]
    simp [this]
theorem bit_word (N i : Nat) : (wd N (i / 32)).testBit (i % 32) = N.testBit i := by
  rw [testBit_wd, Nat.div_add_mod]
  have := Nat.mod_lt i (show 32 > 0 by decide)
  simp [this]
theorem wd_bit (N i j : Nat) : wd (N ||| 2 ^ i) j = if j = i / 32 then wd N j ||| 2 ^ (i % 32) else wd N j := by
  apply Nat.eq_of_testBit_eq; intro b
  rw [testBit_wd, Nat.testBit_or, Nat.testBit_two_pow]
  split
  · rename_i h
    subst h
    rw [Nat.testBit_or, testBit_wd, Nat.testBit_two_pow]
    by_cases hb : b < 32
    · have e : (i = 32 * (i / 32) + b) = (i % 32 = b) := by simp; omega
      simp [hb, e]
    · have e : ¬ i % 32 = b := by omega
      simp [hb, e]
  · rename_i h
    rw [testBit_wd]
    by_cases hb : b < 32
    · have e : ¬ i = 32 * j + b := by omega
      simp [hb, e]
    · simp [hb]
theorem int_bne0 (a : Nat) : ((a : Int) != 0) = (a != 0) := by
  by_cases h : a = 0
  · subst h; rfl
  · have h2 : ¬ (a : Int) = 0 := by omega
    simp only [bne, beq_eq_false_iff_ne.2 h, beq_eq_false_iff_ne.2 h2]
def hasB (N : Nat) (id : Int) : Bool := decide (0 ≤ id ∧ id < 100) && N.testBit id.toNat

/-- The set of a list of ids; none: one of them is no id. -/
def ofN : List Int → Nat → Option Nat
  | [], N => some N
  | i :: r, N => if 0 ≤ i ∧ i < 100 then ofN r (N ||| 2 ^ i.toNat) else none
def ofV (o : Option Nat) : Value := match o with | some N => .tuple #[sv N, .int .i64 0] | none => .tuple #[sv 0, .int .i64 30]
/-- A slice of numbers lies in memory. -/
structure Ints (W : World) (a : Addr) (ids : List Int) : Prop where
  spot : a.spot = none
  cell : ∀ (k : Nat) (x : Int), ids[k]? = some x → W.cell? ⟨a.block, a.off + k, none⟩ = some (.int .i64 x)
  lt : a.block < W.heap.size
theorem Ints.keep {W W' : World} {a : Addr} {ids : List Int} (h : Ints W a ids) (hb : Below W.heap.size W W') : Ints W' a ids :=
  ⟨h.spot, fun k x hx => (hb.cell (p := ⟨a.block, a.off + k, none⟩) h.lt).trans (h.cell k x hx), Nat.lt_of_lt_of_le h.lt hb.size⟩
theorem ret4t {f : Func} {p q : Tmp} {R : Ending → World → Prop} {a : Act} {w : World} {b M : Nat} {x : Value} (hres : f.results = #[.cell p 41, .tmp q]) (hp : a.tmps.getD p undef = .pointer (some ⟨b, 0, none⟩)) (hq : a.tmps.getD q undef = x) (hd : a.defers = []) (h : Holds4 w b (wd M)) (hR : R (.returned (.tuple #[sv M, x])) w) : bodyPost Tryd.prog f R .ret a w := by
  refine bodyPost_ret (v := .tuple #[sv M, x]) ?_ hd hR
  have h1 := run_loadVar_row (P := Tryd.prog) w b 41 41 (cells4 (wd M)) (0, 0) _ h Tryd.underlying41 rfl (by kernel_rfl)
  have hp' : a.tmps[p]?.getD undef = .pointer (some ⟨b, 0, none⟩) := by simpa using hp
  have hq' : a.tmps[q]?.getD undef = x := by simpa using hq
  simp [results, hres, hp', hq', asAddr, h1]
  rfl
set_option maxHeartbeats 1000000 in
set_option maxRecDepth 100000 in
theorem of_anyO (ids : List Int) (ad : Option Addr) (cap : Nat) (hl : ids.length < 9223372036854775808) (w : World) (hI0 : ids ≠ [] → ∃ a, ad = some a ∧ Ints w a ids) : Calls Tryd.prog 9 #[.slice ad ids.length cap] w fun e w' => e = .returned (ofV (ofN ids 0)) ∧ Below w.heap.size w w' := by
  have hmx : Tryd.prog.follows .mixedOrders = true := by kernel_rfl
  go_enter Tryd.func9, Tryd.ntmps9
  go_wp2
  go_loopw [9] (fun c wz => ∃ (k N : Nat), c = .int .i64 k ∧ k ≤ ids.length ∧ Hid (ofN (ids.drop k) N = ofN ids 0) ∧ Holds4 wz (w.heap.size + 1) (wd N) ∧ Holds4 wz w.heap.size (fun _ => 0) ∧ Below w.heap.size w wz) (fun c _ => ids.length - vnat c)
  case atStart => exact ⟨0, 0, rfl, by omega, rfl, get_new (by simp), get_old (get_new (by simp)), ((Below.refl _ w).alloc (by simp) _).alloc (by simp) _⟩
  case round =>
    obtain ⟨k, N, rfl, hk, HN, h1, h2, hb⟩ := hrel
    have hz : w.heap.size + 1 < wr.heap.size := (Array.getElem?_eq_some_iff.1 h1).1
    by_cases hkl : k < ids.length
    · have hki : (k : Int) < ids.length := by omega
      obtain ⟨⟨ab, ao, sp⟩, rfl, hI⟩ := hI0 (by rintro rfl; simp at hkl)
      have hsp : sp = none := hI.spot
      subst hsp
      clear hI0
      obtain ⟨x, hx⟩ : ∃ x, ids[k]? = some x := ⟨_, List.getElem?_eq_getElem hkl⟩
      have hcell : wr.cell? ⟨ab, ao + k, none⟩ = some (.int .i64 x) := (hb.cell (p := ⟨ab, ao + k, none⟩) hI.lt).trans (hI.cell k x hx)
      have hdrop : ids.drop k = x :: ids.drop (k + 1) := by rw [List.drop_eq_getElem_cons hkl]; congr 1; rw [List.getElem?_eq_getElem hkl] at hx; exact Option.some.inj hx
      have hid := isId_any x
      by_cases hr : 0 ≤ x ∧ x < 100
      · obtain ⟨i, rfl⟩ := Int.eq_ofNat_of_zero_le hr.1
        simp only [hr, and_self, decide_true] at hid
        have HN2 : Hid (ofN (ids.drop (k + 1)) (N ||| 2 ^ i) = ofN ids 0) := by
          show ofN (ids.drop (k + 1)) (N ||| 2 ^ i) = ofN ids 0
          rw [← HN.out, hdrop, ofN, if_pos hr]; rfl
        clear HN hdrop
        go_wp2_with (go_at_call 15; refine (hid _).mono ?_; rintro e w1 ⟨rfl, rfl⟩)
        rename_i Q0 K0 hK
        refine wp_region_any hmx ?_
        have hi : i < 100 := by omega
        have hq : i / 32 < 4 := by omega
        refine wpAny_last 8 (fun i__ => ([(.int .i64 (i : Int)), (.int .i64 ((i / 32 : Nat) : Int)), (.pointer (some ⟨w.heap.size + 1, i / 32, none⟩)), (.int .u32 ((wd N (i / 32) : Nat) : Int)), (.int .i64 (i : Int)), (.int .u32 ((2 ^ (i % 32) : Nat) : Int)), (.int .u32 ((wd N (i / 32) ||| 2 ^ (i % 32) : Nat) : Int)), (.pointer (some ⟨w.heap.size + 1, i / 32, none⟩)), undef] : List Value).getD i__ undef) (fun W => Holds4 W (w.heap.size + 1) (wd N) ∧ Holds4 W w.heap.size (fun _ => 0) ∧ Below w.heap.size w W) (fun W => Holds4 W (w.heap.size + 1) (wd (N ||| 2 ^ i)) ∧ Holds4 W w.heap.size (fun _ => 0) ∧ Below w.heap.size w W) rfl (by kernel_rfl) (by kernel_rfl) ⟨h1, h2, hb.drew⟩ ?_ ?_  ?_
        · refine (stepsFrom_cons ?_ (stepsFrom_cons ?_ (stepsFrom_cons ?_ (stepsFrom_cons ?_ (stepsFrom_cons ?_ (stepsFrom_cons ?_ (stepsFrom_cons ?_ (stepsFrom_cons ?_ trivial))))))))
          · exact step_move rfl trivial _ rfl (by kernel_rfl)
          · exact step_binOp rfl trivial _ _ _ _ _ _ _ rfl rfl rfl (fun w hw => bin_quo64 i 32 (by omega) (by omega))
          · exact step_indexAddr rfl trivial _ _ _ _ _ rfl rfl rfl (fun w hw => idx4 _ _ hq w)
          · exact step_load rfl trivial _ _ _ rfl rfl (fun w hw => load4 w _ _ _ hw.1 hq)
          · exact step_move rfl trivial _ rfl (by kernel_rfl)
          · exact step_call rfl trivial 16 _ _ [(.int .i64 (i : Int))] rfl (by kernel_rfl) (enters_of Tryd.func16 (by kernel_rfl) rfl) (fun w hw => (bit_any i (by omega) w).mono (by rintro e w' ⟨rfl, rfl⟩; exact ⟨rfl, hw⟩))
          · exact step_binOp rfl trivial _ _ _ _ _ _ _ rfl rfl rfl (fun w hw => bin_or32 _ _ (wd_lt _ _) (Nat.pow_lt_pow_right (a := 2) (n := 32) (by decide) (Nat.mod_lt _ (by decide))))
          · exact step_indexAddr rfl trivial _ _ _ _ _ rfl rfl rfl (fun w hw => idx4 _ _ hq w)
        · intro o ho
          cases ho
          exact step_store rfl trivial rfl _ _ _ _ _ rfl rfl rfl (fun w' hw => by obtain ⟨w2, e1, e2, e3, e4⟩ := store4 w' _ _ _ _ hw.1 hq; refine ⟨w2, e1, e2.congr (fun j hj => ?_), (e4 _ (by omega)).trans hw.2.1, hw.2.2.trans (e3 _ (by omega))⟩; rw [wd_bit]; split <;> simp_all)
        intro W hW
        first | refine hK _ _ ?_ | refine (‹∀ (a : Act) (w : World), Code.wp Tryd.prog _ _ a w → _›) _ _ ?_
        simp only [finL, List.getD_cons_zero, List.getD_cons_succ, Nat.zero_add, Nat.reduceAdd, List.setIfInBounds_toArray, List.set_cons_zero, List.set_cons_succ]
        obtain ⟨g1, g2, g3⟩ := hW
        go_wp2
        go_roundw
        case rel => exact ⟨k + 1, _, by simp, by omega, HN2, g1, g2, g3⟩
        case measure => simp only [vnat]; omega
      · simp only [hr, decide_false] at hid
        have HN2 : Hid (ofN ids 0 = none) := by
          show ofN ids 0 = none
          rw [← HN.out, hdrop, ofN, if_neg hr]
        obtain ⟨y0, y1, y2, y3, z0, z1, z2, z3⟩ := h2.facts
        have H2 : Hid (Holds4 wr w.heap.size (fun _ => 0)) := h2
        have e0 : sv 0 = .agg #[.int .u32 0, .int .u32 0, .int .u32 0, .int .u32 0] := by simp [sv, wd]
        clear HN hdrop h1 h2
        go_wp2_with (go_at_call 15; refine (hid _).mono ?_; rintro e w1 ⟨rfl, rfl⟩)
        show bodyPost Tryd.prog Tryd.f9 _ Exit.ret _ (set4 _ w.heap.size 0)
        refine ret4t rfl rfl rfl rfl (fin4 H2.out 0) ⟨?_, below4 hb (Nat.le_refl _) _⟩
        rw [HN2.out]
        rfl
    · have hk5 : k = ids.length := by omega
      subst hk5
      have HN2 : Hid (ofN ids 0 = some N) := by
        show ofN ids 0 = some N
        rw [← HN.out, List.drop_length]; rfl
      obtain ⟨x0, x1, x2, x3, _⟩ := h1.facts
      obtain ⟨y0, y1, y2, y3, z0, z1, z2, z3⟩ := h2.facts
      have H2 : Hid (Holds4 wr w.heap.size (fun _ => 0)) := h2
      clear HN h1 h2
      go_wp2
      refine ret4t rfl rfl rfl rfl (fin4 H2.out _) ⟨?_, below4 hb (Nat.le_refl _) _⟩
      rw [HN2.out]
      rfl
theorem of_any (ids : List Int) (a : Addr) (cap : Nat) (hl : ids.length < 9223372036854775808) (w : World) (hI : Ints w a ids) : Calls Tryd.prog 9 #[.slice (some a) ids.length cap] w fun e w' => e = .returned (ofV (ofN ids 0)) ∧ Below w.heap.size w w' := of_anyO ids (some a) cap hl w (fun _ => ⟨a, rfl, hI⟩)
end Go.Proofs.YtoplegfibdmjeaaDoor
