import Derived.Test.YtekjhcnaabpfmaaGreatDoorJnJ3
set_option maxHeartbeats 40000000
set_option maxRecDepth 100000
set_option linter.unusedVariables false
namespace Go.Proofs.YtekjhcnaabpfmaaGreatDoor
open Go.RowKit Go.Shelf Go.Lib
theorem union_any (A B : Nat) (w : World) : Calls Tryz.prog 133 #[sv A, sv B] w fun e w' => e = .returned (sv (cln (A ||| B))) ∧ Below w.heap.size w w' := by
 have hmx := mixO
 have hc := clean_any (A ||| B)
 have hmix : ∀ k j, (if j = k then wd A k ||| wd B k else if j < k then wd (A ||| B) j else wd A j) = if j < k + 1 then wd (A ||| B) j else wd A j := by
  intro k j
  by_cases q : j = k
  · subst q; simp [wd_or]
  · by_cases q2 : j < k
    · rw [if_neg q, if_pos q2, if_pos (by omega)]
    · rw [if_neg q, if_neg q2, if_neg (by omega)]
 simp only [sv] at hc ⊢
 go_enter Tryz.func133, Tryz.ntmps133
 go_wp2
 go_loopw [6] (fun c wz => ∃ k : Nat, c = .int .i64 k ∧ k ≤ 4 ∧ Zh4 wz w.heap.size (fun j => if j < k then wd (A ||| B) j else wd A j) ∧ Zh4 wz (w.heap.size + 1) (wd B) ∧ Zh4 wz (w.heap.size + 2) (fun _ => 0) ∧ Below w.heap.size w wz) (fun c _ => 4 - vnat c)
 case atStart =>
  refine ⟨0, rfl, by omega, ?_, ?_, ?_, ?_⟩
  · exact get_old (get_old (get_new (by simp)))
  · exact get_old (get_new (by simp))
  · exact get_new (by simp)
  · exact (((Below.refl _ w).alloc (by simp) _).alloc (by simp) _).alloc (by simp; omega) _
 case round =>
  obtain ⟨k, rfl, hk, h1, h3, h2, hb⟩ := hrel
  have hz : w.heap.size + 2 < wr.heap.size := (Array.getElem?_eq_some_iff.1 h2).1
  by_cases hk4 : k < 4
  · have hki : (k : Int) < 4 := by omega
    have ha : wd A k < 4294967296 := wd_lt A k
    have hbb : wd B k < 4294967296 := wd_lt B k
    clear hc
    go_wp2
    rename_i Q0 K0 hK
    refine wp_region_any hmx ?_
    refine zwl 8 (fun i__ => ([(.int .i64 (k : Int)), (.pointer (some ⟨w.heap.size, k, none⟩)), (.int .u32 ((wd A k : Nat) : Int)), (.int .i64 (k : Int)), (.pointer (some ⟨w.heap.size + 1, k, none⟩)), (.int .u32 ((wd B k : Nat) : Int)), (.int .u32 ((wd A k ||| wd B k : Nat) : Int)), (.pointer (some ⟨w.heap.size, k, none⟩)), undef] : List Value).getD i__ undef) (fun W => Zh4 W w.heap.size (fun j => if j < k then wd (A ||| B) j else wd A j) ∧ Zh4 W (w.heap.size + 1) (wd B) ∧ Zh4 W (w.heap.size + 2) (fun _ => 0) ∧ Below w.heap.size w W) (fun W => Zh4 W w.heap.size (fun j => if j < k + 1 then wd (A ||| B) j else wd A j) ∧ Zh4 W (w.heap.size + 1) (wd B) ∧ Zh4 W (w.heap.size + 2) (fun _ => 0) ∧ Below w.heap.size w W) rfl (by kernel_rfl) (by kernel_rfl) ⟨h1, h3, h2, hb.drew⟩ ?_ ?_  ?_
    · refine (sqc ?_ (sqc ?_ (sqc ?_ (sqc ?_ (sqc ?_ (sqc ?_ (sqc ?_ (sqc ?_ trivial))))))))
      · exact zmv rfl trivial _ rfl (by kernel_rfl)
      · exact zia rfl trivial _ _ _ _ _ rfl rfl rfl (fun w hw => idx4 _ k hk4 w)
      · exact zld rfl trivial _ _ _ rfl rfl (fun w hw => by have := load4 w _ k _ hw.1 hk4; simpa using this)
      · exact zmv rfl trivial _ rfl (by kernel_rfl)
      · exact zia rfl trivial _ _ _ _ _ rfl rfl rfl (fun w hw => idx4 _ k hk4 w)
      · exact zld rfl trivial _ _ _ rfl rfl (fun w hw => load4 w _ k _ hw.2.1 hk4)
      · exact zbo rfl trivial _ _ _ _ _ _ _ rfl rfl rfl (fun w hw => bin_or32 _ _ ha hbb)
      · exact zia rfl trivial _ _ _ _ _ rfl rfl rfl (fun w hw => idx4 _ k hk4 w)
    · intro o ho
      cases ho
      exact step_store rfl trivial rfl _ _ _ _ _ rfl rfl rfl (fun w' hw => by obtain ⟨w2, e1, e2, e3, e4⟩ := store4 w' _ k _ _ hw.1 hk4; refine ⟨w2, e1, e2.congr (fun j hj => ?_), (e4 _ (by omega)).trans hw.2.1, (e4 _ (by omega)).trans hw.2.2.1, hw.2.2.2.trans (e3 _ (Nat.le_refl _))⟩; exact hmix k j)
    intro W hW
    first | refine hK _ _ ?_ | refine (‹∀ (a : Act) (w : World), Code.wp Tryz.prog _ _ a w → _›) _ _ ?_
    simp only [finL, List.getD_cons_zero, List.getD_cons_succ, Nat.zero_add, Nat.reduceAdd, List.setIfInBounds_toArray, List.set_cons_zero, List.set_cons_succ]
    obtain ⟨g1, g3, g2, g4⟩ := hW
    go_wp2
    go_roundw
    case rel => exact ⟨k + 1, by simp, by omega, g1, g3, g2, g4⟩
    case measure => simp only [vnat]; omega
  · have hk5 : k = 4 := by omega
    subst hk5
    have h1' : Zh4 wr w.heap.size (wd (A ||| B)) := h1.congr (fun j hj => by simp [hj])
    obtain ⟨x0, x1, x2, x3, _⟩ := h1'.facts
    have H2 : Hid (Zh4 wr (w.heap.size + 2) (fun _ => 0)) := h2
    clear h1 h1' h2 hmix
    go_wp2_with (go_at_call 109; refine (hc _).mono ?_; rintro e w' ⟨rfl, hb'⟩; have q : Hid (Zh4 w' (w.heap.size + 2) (fun _ => 0)) := (hb'.block _ (by omega)).trans H2.out; obtain ⟨y0, y1, y2, y3, z0, z1, z2, z3⟩ := q.out.facts; have hb2 : Below w.heap.size w w' := hb.trans (hb'.mono (by omega)))
    exact ret4 rfl rfl rfl (fin4 q.out _) ⟨rfl, below4 hb2 (by omega) _⟩
theorem less_any (A B : Nat) (w : World) : Calls Tryz.prog 157 #[sv A, sv B] w fun e w' => e = .returned (sv (cln (dif A B))) ∧ Below w.heap.size w w' := by
 have hmx := mixO
 have hc := clean_any (dif A B)
 have hmix : ∀ k j, (if j = k then wd A k &&& (4294967295 - wd B k) else if j < k then wd (dif A B) j else wd A j) = if j < k + 1 then wd (dif A B) j else wd A j := by
  intro k j
  by_cases q : j = k
  · subst q; simp [wd_dif]
  · by_cases q2 : j < k
    · rw [if_neg q, if_pos q2, if_pos (by omega)]
    · rw [if_neg q, if_neg q2, if_neg (by omega)]
 simp only [sv] at hc ⊢
 go_enter Tryz.func157, Tryz.ntmps157
 go_wp2
 go_loopw [6] (fun c wz => ∃ k : Nat, c = .int .i64 k ∧ k ≤ 4 ∧ Zh4 wz w.heap.size (fun j => if j < k then wd (dif A B) j else wd A j) ∧ Zh4 wz (w.heap.size + 1) (wd B) ∧ Zh4 wz (w.heap.size + 2) (fun _ => 0) ∧ Below w.heap.size w wz) (fun c _ => 4 - vnat c)
 case atStart =>
  refine ⟨0, rfl, by omega, ?_, ?_, ?_, ?_⟩
  · exact get_old (get_old (get_new (by simp)))
  · exact get_old (get_new (by simp))
  · exact get_new (by simp)
  · exact (((Below.refl _ w).alloc (by simp) _).alloc (by simp) _).alloc (by simp; omega) _
 case round =>
  obtain ⟨k, rfl, hk, h1, h3, h2, hb⟩ := hrel
  have hz : w.heap.size + 2 < wr.heap.size := (Array.getElem?_eq_some_iff.1 h2).1
  by_cases hk4 : k < 4
  · have hki : (k : Int) < 4 := by omega
    have ha : wd A k < 4294967296 := wd_lt A k
    have hbb : wd B k < 4294967296 := wd_lt B k
    clear hc
    go_wp2
    rename_i Q0 K0 hK
    refine wp_region_any hmx ?_
    refine zwl 8 (fun i__ => ([(.int .i64 (k : Int)), (.pointer (some ⟨w.heap.size, k, none⟩)), (.int .u32 ((wd A k : Nat) : Int)), (.int .i64 (k : Int)), (.pointer (some ⟨w.heap.size + 1, k, none⟩)), (.int .u32 ((wd B k : Nat) : Int)), (.int .u32 ((wd A k &&& (4294967295 - wd B k) : Nat) : Int)), (.pointer (some ⟨w.heap.size, k, none⟩)), undef] : List Value).getD i__ undef) (fun W => Zh4 W w.heap.size (fun j => if j < k then wd (dif A B) j else wd A j) ∧ Zh4 W (w.heap.size + 1) (wd B) ∧ Zh4 W (w.heap.size + 2) (fun _ => 0) ∧ Below w.heap.size w W) (fun W => Zh4 W w.heap.size (fun j => if j < k + 1 then wd (dif A B) j else wd A j) ∧ Zh4 W (w.heap.size + 1) (wd B) ∧ Zh4 W (w.heap.size + 2) (fun _ => 0) ∧ Below w.heap.size w W) rfl (by kernel_rfl) (by kernel_rfl) ⟨h1, h3, h2, hb.drew⟩ ?_ ?_  ?_
    · refine (sqc ?_ (sqc ?_ (sqc ?_ (sqc ?_ (sqc ?_ (sqc ?_ (sqc ?_ (sqc ?_ trivial))))))))
      · exact zmv rfl trivial _ rfl (by kernel_rfl)
      · exact zia rfl trivial _ _ _ _ _ rfl rfl rfl (fun w hw => idx4 _ k hk4 w)
      · exact zld rfl trivial _ _ _ rfl rfl (fun w hw => by have := load4 w _ k _ hw.1 hk4; simpa using this)
      · exact zmv rfl trivial _ rfl (by kernel_rfl)
      · exact zia rfl trivial _ _ _ _ _ rfl rfl rfl (fun w hw => idx4 _ k hk4 w)
      · exact zld rfl trivial _ _ _ rfl rfl (fun w hw => load4 w _ k _ hw.2.1 hk4)
      · exact zbo rfl trivial _ _ _ _ _ _ _ rfl rfl rfl (fun w hw => bin_andNot32 _ _ ha hbb)
      · exact zia rfl trivial _ _ _ _ _ rfl rfl rfl (fun w hw => idx4 _ k hk4 w)
    · intro o ho
      cases ho
      exact step_store rfl trivial rfl _ _ _ _ _ rfl rfl rfl (fun w' hw => by obtain ⟨w2, e1, e2, e3, e4⟩ := store4 w' _ k _ _ hw.1 hk4; refine ⟨w2, e1, e2.congr (fun j hj => ?_), (e4 _ (by omega)).trans hw.2.1, (e4 _ (by omega)).trans hw.2.2.1, hw.2.2.2.trans (e3 _ (Nat.le_refl _))⟩; exact hmix k j)
    intro W hW
    first | refine hK _ _ ?_ | refine (‹∀ (a : Act) (w : World), Code.wp Tryz.prog _ _ a w → _›) _ _ ?_
    simp only [finL, List.getD_cons_zero, List.getD_cons_succ, Nat.zero_add, Nat.reduceAdd, List.setIfInBounds_toArray, List.set_cons_zero, List.set_cons_succ]
    obtain ⟨g1, g3, g2, g4⟩ := hW
    go_wp2
    go_roundw
    case rel => exact ⟨k + 1, by simp, by omega, g1, g3, g2, g4⟩
    case measure => simp only [vnat]; omega
  · have hk5 : k = 4 := by omega
    subst hk5
    have h1' : Zh4 wr w.heap.size (wd (dif A B)) := h1.congr (fun j hj => by simp [hj])
    obtain ⟨x0, x1, x2, x3, _⟩ := h1'.facts
    have H2 : Hid (Zh4 wr (w.heap.size + 2) (fun _ => 0)) := h2
    clear h1 h1' h2 hmix
    go_wp2_with (go_at_call 109; refine (hc _).mono ?_; rintro e w' ⟨rfl, hb'⟩; have q : Hid (Zh4 w' (w.heap.size + 2) (fun _ => 0)) := (hb'.block _ (by omega)).trans H2.out; obtain ⟨y0, y1, y2, y3, z0, z1, z2, z3⟩ := q.out.facts; have hb2 : Below w.heap.size w w' := hb.trans (hb'.mono (by omega)))
    exact ret4 rfl rfl rfl (fin4 q.out _) ⟨rfl, below4 hb2 (by omega) _⟩
theorem Zh4.carry {w w' : World} {b : Nat} {c : Nat → Nat} (h : Zh4 w b c) (hb : Below w.heap.size w w') : Zh4 w' b c := h.keep hb (Array.getElem?_eq_some_iff.1 h).1
theorem bcarry {w0 w w' : World} {B : Nat} (h : Below B w0 w) (hB : B ≤ w0.heap.size) (hb : Below w.heap.size w w') : Below B w0 w' := h.trans (hb.mono (Nat.le_trans hB h.size))
theorem eqStep (A B j : Nat) (hj : j < 4) (is : List Nat) (w : World) : (Op.eqItems 9999 33 1 (cells4 (wd A)) (cells4 (wd B)) (j :: is)).run Tryz.prog w = if wd A j = wd B j then (Op.eqItems 9999 33 1 (cells4 (wd A)) (cells4 (wd B)) is).run Tryz.prog w else .ok false w := by
 have he : Tryz.prog.plainKey 33 = true := by kernel_rfl
 have p1 := run_part_plain (P := Tryz.prog) w he (off := j * 1) (by rw [Nat.mul_one]; exact cells4_get (wd A) j hj)
 have p2 := run_part_plain (P := Tryz.prog) w he (off := j * 1) (by rw [Nat.mul_one]; exact cells4_get (wd B) j hj)
 have p3 := run_equalIn_int (P := Tryz.prog) w 9998 33 .u32 .u32 (wd A j : Int) (wd B j : Int) Tryz.underlying33
 rw [Op.eqItems]
 simp only [Sem.run_bind, p1, p2, Result.andThen_ok]
 rw [p3]
 simp only [Result.andThen_ok]
 by_cases h : wd A j = wd B j
 · simp [h]
 · have h2 : ((wd A j : Int) == (wd B j : Int)) = false := by simp; omega
   simp [h, h2]
theorem eqn4 (A B : Nat) (hA : A < S128) (hB : B < S128) (w : World) : (Op.equalIn 10000 35 (sv A) (sv B)).run Tryz.prog w = .ok (decide (A = B)) w := by
 have hi : (Tryz.prog.info? 33).isSome = true := by kernel_rfl
 obtain ⟨i, hi⟩ := Option.isSome_iff_exists.1 hi
 have hc : Tryz.prog.cellsOf 33 = 1 := by kernel_rfl
 rw [sv_cells, sv_cells, run_equalIn_array w 9999 _ _ Tryz.underlying35 hi, hc, show List.range 4 = [0, 1, 2, 3] from rfl]
 rw [eqStep A B 0 (by decide), eqStep A B 1 (by decide), eqStep A B 2 (by decide), eqStep A B 3 (by decide)]
 by_cases e : A = B
 · subst e; simp [Op.eqItems]
 · have hn : ¬ (wd A 0 = wd B 0 ∧ wd A 1 = wd B 1 ∧ wd A 2 = wd B 2 ∧ wd A 3 = wd B 3) := fun h => e (ext_wd hA hB h.1 h.2.1 h.2.2.1 h.2.2.2)
   simp only [e, decide_false]
   by_cases h0 : wd A 0 = wd B 0
   · by_cases h1 : wd A 1 = wd B 1
     · by_cases h2 : wd A 2 = wd B 2
       · by_cases h3 : wd A 3 = wd B 3
         · exact absurd ⟨h0, h1, h2, h3⟩ hn
         · simp [h0, h1, h2, h3]
       · simp [h0, h1, h2]
     · simp [h0, h1]
   · simp [h0]
theorem eql4 (x y : Operand) (A B : Nat) (hA : A < S128) (hB : B < S128) (w : World) : binRun Tryz.prog .eql 35 x y (sv A) (sv B) w = .ok (.bool (decide (A = B))) w := by
 have h := eqn4 A B hA hB w
 unfold sv at h
 unfold binRun sv
 go_simp
theorem hold4 {w : World} {b B M : Nat} (h : B ≠ b) : (set4 w b M).heap[B]? = w.heap[B]? := by
 unfold set4
 rw [Below.heap_setCell _ _ _ _ h, Below.heap_setCell _ _ _ _ h, Below.heap_setCell _ _ _ _ h, Below.heap_setCell _ _ _ _ h]
theorem bit_word (N i : Nat) : (wd N (i / 32)).testBit (i % 32) = N.testBit i := by
 rw [testBit_wd, Nat.div_add_mod]
 have := Nat.mod_lt i (show 32 > 0 by decide)
 simp [this]
theorem wd_bit (N i j : Nat) : wd (N ||| 2 ^ i) j = if j = i / 32 then wd N j ||| 2 ^ (i % 32) else wd N j := by
 apply Nat.eq_of_testBit_eq; intro b
 rw [testBit_wd, Nat.testBit_or, Nat.testBit_two_pow]
 split
 · rename_i h
   subst h
   rw [Nat.testBit_or, testBit_wd, Nat.testBit_two_pow]
   by_cases hb : b < 32
   · have e : (i = 32 * (i / 32) + b) = (i % 32 = b) := by simp; omega
     simp [hb, e]
   · have e : ¬ i % 32 = b := by omega
     simp [hb, e]
 · rename_i h
   rw [testBit_wd]
   by_cases hb : b < 32
   · have e : ¬ i = 32 * j + b := by omega
     simp [hb, e]
   · simp [hb]
def hasB (N : Nat) (id : Int) : Bool := decide (0 ≤ id ∧ id < 100) && N.testBit id.toNat
theorem ret4t {f : Func} {p q : Tmp} {R : Ending → World → Prop} {a : Act} {w : World} {b M : Nat} {x : Value} (hres : f.results = #[.cell p 35, .tmp q]) (hp : a.tmps.getD p undef = .pointer (some ⟨b, 0, none⟩)) (hq : a.tmps.getD q undef = x) (hd : a.defers = []) (h : Zh4 w b (wd M)) (hR : R (.returned (.tuple #[sv M, x])) w) : bodyPost Tryz.prog f R .ret a w := by
 refine bodyPost_ret (v := .tuple #[sv M, x]) ?_ hd hR
 have h1 := run_loadVar_row (P := Tryz.prog) w b 35 35 (cells4 (wd M)) (0, 0) _ h Tryz.underlying35 rfl (by kernel_rfl)
 have hp' : a.tmps[p]?.getD undef = .pointer (some ⟨b, 0, none⟩) := by simpa using hp
 have hq' : a.tmps[q]?.getD undef = x := by simpa using hq
 simp [results, hres, hp', hq', asAddr, h1]
 rfl
end Go.Proofs.YtekjhcnaabpfmaaGreatDoor
