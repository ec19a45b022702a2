import Derived.Test.YtifcnnonnocmmaaJnJ1
set_option maxHeartbeats 40000000
set_option maxRecDepth 100000
set_option linter.unusedVariables false
namespace Go.Proofs.Ytifcnnonnocmmaa
open Go.RowKit Go.Shelf Go.Lib
theorem Zh4.congr {w : World} {b : Nat} {c c' : Nat → Nat} (h : Zh4 w b c) (e : ∀ j, j < 4 → c j = c' j) : Zh4 w b c' := by
 have : cells4 c = cells4 c' := by simp [cells4, e 0 (by decide), e 1 (by decide), e 2 (by decide), e 3 (by decide)]
 unfold Zh4 at *
 rw [h, this]
theorem Zh4.keep {w w' : World} {b B : Nat} {c : Nat → Nat} (h : Zh4 w b c) (hb : Below B w w') (hB : b < B) : Zh4 w' b c := (hb.block b hB).trans h
theorem get_old {w : World} {o o' : Obj} {k : Nat} (h : w.heap[k]? = some o') : (w.alloc o).heap[k]? = some o' := (Below.heap_alloc w o k (Array.getElem?_eq_some_iff.1 h).1).trans h
theorem get_new {w : World} {o : Obj} {k : Nat} (h : k = w.heap.size) : (w.alloc o).heap[k]? = some o := by subst h; exact heap_alloc_last w o
theorem lowN_wd (N n k : Nat) : wd (N % 2 ^ n) k = wd N k &&& lowN ((n : Int) - (k : Int) * 32) := by
 rw [wd_mod]
 unfold lowN
 congr 3
 omega
theorem mix_step (N n k j : Nat) : (if j = k then wd N k &&& lowN ((n : Int) - (k : Int) * 32) else if j < k then wd (N % 2 ^ n) j else wd N j) = if j < k + 1 then wd (N % 2 ^ n) j else wd N j := by
 by_cases q : j = k
 · subst q; simp [lowN_wd N n j]
 · by_cases q2 : j < k
   · rw [if_neg q, if_pos q2, if_pos (by omega)]
   · rw [if_neg q, if_neg q2, if_neg (by omega)]
def set4 (w : World) (b M : Nat) : World := (((w.setCell ⟨b, 0, none⟩ (.int .u32 (wd M 0 : Nat))).setCell ⟨b, 1, none⟩ (.int .u32 (wd M 1 : Nat))).setCell ⟨b, 2, none⟩ (.int .u32 (wd M 2 : Nat))).setCell ⟨b, 3, none⟩ (.int .u32 (wd M 3 : Nat))
theorem fin4 {w : World} {b : Nat} {c : Nat → Nat} (h : Zh4 w b c) (M : Nat) : Zh4 (set4 w b M) b (wd M) := by
 refine ((((h.set 0 (wd M 0) (by decide)).set 1 (wd M 1) (by decide)).set 2 (wd M 2) (by decide)).set 3 (wd M 3) (by decide)).congr (fun j hj => ?_)
 match j, hj with
 | 0, _ => rfl
 | 1, _ => rfl
 | 2, _ => rfl
 | 3, _ => rfl
theorem below4 {w0 w : World} {B b : Nat} (hb : Below B w0 w) (hB : B ≤ b) (M : Nat) : Below B w0 (set4 w b M) := (((hb.setCell hB _).setCell hB _).setCell hB _).setCell hB _
theorem ret4 {f : Func} {p : Tmp} {R : Ending → World → Prop} {a : Act} {w : World} {b M : Nat} (hres : f.results = #[.cell p 32]) (hp : a.tmps.getD p undef = .pointer (some ⟨b, 0, none⟩)) (hd : a.defers = []) (h : Zh4 w b (wd M)) (hR : R (.returned (sv M)) w) : bodyPost Try.prog f R .ret a w :=
 bodyPost_ret (results_cell_row hres a.tmps w b _ _ (0, 0) _ hp h Try.underlying32 rfl (by kernel_rfl)) hd hR
def vnat (v : Value) : Nat := match v with | .int _ n => n.toNat | _ => 0
theorem below_any (N n : Nat) (hn : n ≤ 128) (w : World) : Calls Try.prog 40 #[sv N, .int .i64 (n : Int)] w fun e w' => e = .returned (sv (N % 2 ^ n)) ∧ Below w.heap.size w w' := by
 have hmx : Try.prog.follows .mixedOrders = true := by kernel_rfl
 simp only [sv]
 go_enter Try.func40, Try.ntmps40
 go_wp2
 go_loopw [6] (fun c wz => ∃ k : Nat, c = .int .i64 k ∧ k ≤ 4 ∧ Zh4 wz w.heap.size (fun j => if j < k then wd (N % 2 ^ n) j else wd N j) ∧ Zh4 wz (w.heap.size + 1) (fun _ => 0) ∧ Below w.heap.size w wz) (fun c _ => 4 - vnat c)
 case atStart =>
  refine ⟨0, rfl, by omega, ?_, ?_, ?_⟩
  · exact get_old (get_new (by simp))
  · exact get_new (by simp)
  · exact ((Below.refl _ w).alloc (by simp) _).alloc (by simp) _
 case round =>
  obtain ⟨k, rfl, hk, h1, h2, hb⟩ := hrel
  have hz : w.heap.size + 1 < wr.heap.size := (Array.getElem?_eq_some_iff.1 h2).1
  by_cases hk4 : k < 4
  · have hki : (k : Int) < 4 := by omega
    have hc : wd N k < 4294967296 := wd_lt N k
    have hl := lowN_lt ((n : Int) - (k : Int) * 32)
    go_wp2
    rename_i Q0 K0 hK
    refine wp_region_any hmx ?_
    refine zwl 10 (fun i__ => ([(.int .i64 (k : Int)), (.pointer (some ⟨w.heap.size, k, none⟩)), (.int .u32 ((wd N k : Nat) : Int)), (.int .i64 (n : Int)), (.int .i64 (k : Int)), (.int .i64 ((k : Int) * 32)), (.int .i64 ((n : Int) - (k : Int) * 32)), (.int .u32 ((lowN ((n : Int) - (k : Int) * 32) : Nat) : Int)), (.int .u32 ((wd N k &&& lowN ((n : Int) - (k : Int) * 32) : Nat) : Int)), (.pointer (some ⟨w.heap.size, k, none⟩)), undef] : List Value).getD i__ undef) (fun W => Zh4 W w.heap.size (fun j => if j < k then wd (N % 2 ^ n) j else wd N j) ∧ Zh4 W (w.heap.size + 1) (fun _ => 0) ∧ Below w.heap.size w W) (fun W => Zh4 W w.heap.size (fun j => if j < k + 1 then wd (N % 2 ^ n) j else wd N j) ∧ Zh4 W (w.heap.size + 1) (fun _ => 0) ∧ Below w.heap.size w W) rfl (by kernel_rfl) (by kernel_rfl) ⟨h1, h2, hb.drew⟩ ?_ ?_  ?_
    · refine (sqc ?_ (sqc ?_ (sqc ?_ (sqc ?_ (sqc ?_ (sqc ?_ (sqc ?_ (sqc ?_ (sqc ?_ (sqc ?_ trivial))))))))))
      · exact zmv rfl trivial _ rfl (by kernel_rfl)
      · exact zia rfl trivial _ _ _ _ _ rfl rfl rfl (fun w hw => idx4 _ k hk4 w)
      · exact zld rfl trivial _ _ _ rfl rfl (fun w hw => by have := load4 w _ k _ hw.1 hk4; simpa using this)
      · exact zmv rfl trivial _ rfl (by kernel_rfl)
      · exact zmv rfl trivial _ rfl (by kernel_rfl)
      · exact zbo rfl trivial _ _ _ _ _ _ _ rfl rfl rfl (fun w hw => bin_mul64 _ _ _ (by rw [IntKind.wrap_i64]; omega))
      · exact zbo rfl trivial _ _ _ _ _ _ _ rfl rfl rfl (fun w hw => bin_sub64 _ _ _ (by rw [IntKind.wrap_i64]; omega))
      · exact zsc rfl trivial 46 _ _ [(.int .i64 ((n : Int) - (k : Int) * 32))] rfl (by kernel_rfl) (enters_of Try.func46 (by kernel_rfl) rfl) (fun w hw => (lowest_any _ w).mono (by rintro e w' ⟨rfl, rfl⟩; exact ⟨rfl, hw⟩))
      · exact zbo rfl trivial _ _ _ _ _ _ _ rfl rfl rfl (fun w hw => bin_and32 _ _ hc hl)
      · exact zia rfl trivial _ _ _ _ _ rfl rfl rfl (fun w hw => idx4 _ k hk4 w)
    · intro o ho
      cases ho
      exact step_store rfl trivial rfl _ _ _ _ _ rfl rfl rfl (fun w' hw => by obtain ⟨w2, e1, e2, e3, e4⟩ := store4 w' _ k _ _ hw.1 hk4; refine ⟨w2, e1, e2.congr (fun j hj => ?_), (e4 _ (by omega)).trans hw.2.1, hw.2.2.trans (e3 _ (Nat.le_refl _))⟩; exact mix_step N n k j)
    intro W hW
    first | refine hK _ _ ?_ | refine (‹∀ (a : Act) (w : World), Code.wp Try.prog _ _ a w → _›) _ _ ?_
    simp only [finL, List.getD_cons_zero, List.getD_cons_succ, Nat.zero_add, Nat.reduceAdd, List.setIfInBounds_toArray, List.set_cons_zero, List.set_cons_succ]
    obtain ⟨g1, g2, g3⟩ := hW
    go_wp2
    go_roundw
    case rel => exact ⟨k + 1, by simp, by omega, g1, g2, g3⟩
    case measure => simp only [vnat]; omega
  · have hk5 : k = 4 := by omega
    subst hk5
    have h1' : Zh4 wr w.heap.size (wd (N % 2 ^ n)) := h1.congr (fun j hj => by simp [hj])
    have x0 := h1'.cell 0 (by decide)
    have x1 := h1'.cell 1 (by decide)
    have x2 := h1'.cell 2 (by decide)
    have x3 := h1'.cell 3 (by decide)
    have y0 := h2.cell 0 (by decide)
    have y1 := h2.cell 1 (by decide)
    have y2 := h2.cell 2 (by decide)
    have y3 := h2.cell 3 (by decide)
    have z0 := h2.frozen 0
    have z1 := h2.frozen 1
    have z2 := h2.frozen 2
    have z3 := h2.frozen 3
    have H2 : Hid (Zh4 wr (w.heap.size + 1) (fun _ => 0)) := h2
    clear h1 h1' h2
    go_wp2
    exact ret4 rfl rfl rfl (fin4 H2.out _) ⟨rfl, below4 hb (Nat.le_succ _) _⟩
theorem Zh4.facts {w : World} {b : Nat} {c : Nat → Nat} (h : Zh4 w b c) :
  w.cell? ⟨b, 0, none⟩ = some (.int .u32 (c 0 : Nat)) ∧ w.cell? ⟨b, 1, none⟩ = some (.int .u32 (c 1 : Nat)) ∧ w.cell? ⟨b, 2, none⟩ = some (.int .u32 (c 2 : Nat)) ∧ w.cell? ⟨b, 3, none⟩ = some (.int .u32 (c 3 : Nat)) ∧
  w.frozen? ⟨b, 0, none⟩ = false ∧ w.frozen? ⟨b, 1, none⟩ = false ∧ w.frozen? ⟨b, 2, none⟩ = false ∧ w.frozen? ⟨b, 3, none⟩ = false :=
 ⟨h.cell 0 (by decide), h.cell 1 (by decide), h.cell 2 (by decide), h.cell 3 (by decide), h.frozen 0, h.frozen 1, h.frozen 2, h.frozen 3⟩
theorem clean_any (N : Nat) (w : World) : Calls Try.prog 41 #[sv N] w fun e w' => e = .returned (sv (cln N)) ∧ Below w.heap.size w w' := by
 have hc : ∀ w, Calls Try.prog 40 #[sv N, .int .i64 100] w fun e w' => e = .returned (sv (cln N)) ∧ Below w.heap.size w w' := below_any N 100 (by decide)
 simp only [sv] at hc ⊢
 generalize cln N = M at *
 go_enter Try.func41, Try.ntmps41
 go_wp2_with (go_at_call 40; refine (hc _).mono ?_; rintro e w' ⟨rfl, hb⟩; have q : Hid (Zh4 w' (w.heap.size + 1) (fun _ => 0)) := (hb.block _ (by simp)).trans (get_new (by simp)); obtain ⟨y0, y1, y2, y3, z0, z1, z2, z3⟩ := q.out.facts; have hb2 : Below w.heap.size w w' := (((Below.refl _ w).alloc (by simp) _).alloc (by simp) _).trans (hb.mono (by simp; omega)))
 exact ret4 rfl rfl rfl (fin4 q.out _) ⟨rfl, below4 hb2 (Nat.le_succ _) _⟩
theorem less_any (A B : Nat) (w : World) : Calls Try.prog 45 #[sv A, sv B] w fun e w' => e = .returned (sv (cln (dif A B))) ∧ Below w.heap.size w w' := by
 have hmx : Try.prog.follows .mixedOrders = true := by kernel_rfl
 have hc := clean_any (dif A B)
 have hmix : ∀ k j, (if j = k then wd A k &&& (4294967295 - wd B k) else if j < k then wd (dif A B) j else wd A j) = if j < k + 1 then wd (dif A B) j else wd A j := by
  intro k j
  by_cases q : j = k
  · subst q; simp [wd_dif]
  · by_cases q2 : j < k
    · rw [if_neg q, if_pos q2, if_pos (by omega)]
    · rw [if_neg q, if_neg q2, if_neg (by omega)]
 simp only [sv] at hc ⊢
 go_enter Try.func45, Try.ntmps45
 go_wp2
 go_loopw [6] (fun c wz => ∃ k : Nat, c = .int .i64 k ∧ k ≤ 4 ∧ Zh4 wz w.heap.size (fun j => if j < k then wd (dif A B) j else wd A j) ∧ Zh4 wz (w.heap.size + 1) (wd B) ∧ Zh4 wz (w.heap.size + 2) (fun _ => 0) ∧ Below w.heap.size w wz) (fun c _ => 4 - vnat c)
 case atStart =>
  refine ⟨0, rfl, by omega, ?_, ?_, ?_, ?_⟩
  · exact get_old (get_old (get_new (by simp)))
  · exact get_old (get_new (by simp))
  · exact get_new (by simp)
  · exact (((Below.refl _ w).alloc (by simp) _).alloc (by simp) _).alloc (by simp; omega) _
 case round =>
  obtain ⟨k, rfl, hk, h1, h3, h2, hb⟩ := hrel
  have hz : w.heap.size + 2 < wr.heap.size := (Array.getElem?_eq_some_iff.1 h2).1
  by_cases hk4 : k < 4
  · have hki : (k : Int) < 4 := by omega
    have ha : wd A k < 4294967296 := wd_lt A k
    have hbb : wd B k < 4294967296 := wd_lt B k
    clear hc
    go_wp2
    rename_i Q0 K0 hK
    refine wp_region_any hmx ?_
    refine zwl 8 (fun i__ => ([(.int .i64 (k : Int)), (.pointer (some ⟨w.heap.size, k, none⟩)), (.int .u32 ((wd A k : Nat) : Int)), (.int .i64 (k : Int)), (.pointer (some ⟨w.heap.size + 1, k, none⟩)), (.int .u32 ((wd B k : Nat) : Int)), (.int .u32 ((wd A k &&& (4294967295 - wd B k) : Nat) : Int)), (.pointer (some ⟨w.heap.size, k, none⟩)), undef] : List Value).getD i__ undef) (fun W => Zh4 W w.heap.size (fun j => if j < k then wd (dif A B) j else wd A j) ∧ Zh4 W (w.heap.size + 1) (wd B) ∧ Zh4 W (w.heap.size + 2) (fun _ => 0) ∧ Below w.heap.size w W) (fun W => Zh4 W w.heap.size (fun j => if j < k + 1 then wd (dif A B) j else wd A j) ∧ Zh4 W (w.heap.size + 1) (wd B) ∧ Zh4 W (w.heap.size + 2) (fun _ => 0) ∧ Below w.heap.size w W) rfl (by kernel_rfl) (by kernel_rfl) ⟨h1, h3, h2, hb.drew⟩ ?_ ?_  ?_
    · refine (sqc ?_ (sqc ?_ (sqc ?_ (sqc ?_ (sqc ?_ (sqc ?_ (sqc ?_ (sqc ?_ trivial))))))))
      · exact zmv rfl trivial _ rfl (by kernel_rfl)
      · exact zia rfl trivial _ _ _ _ _ rfl rfl rfl (fun w hw => idx4 _ k hk4 w)
      · exact zld rfl trivial _ _ _ rfl rfl (fun w hw => by have := load4 w _ k _ hw.1 hk4; simpa using this)
      · exact zmv rfl trivial _ rfl (by kernel_rfl)
      · exact zia rfl trivial _ _ _ _ _ rfl rfl rfl (fun w hw => idx4 _ k hk4 w)
      · exact zld rfl trivial _ _ _ rfl rfl (fun w hw => load4 w _ k _ hw.2.1 hk4)
      · exact zbo rfl trivial _ _ _ _ _ _ _ rfl rfl rfl (fun w hw => bin_andNot32 _ _ ha hbb)
      · exact zia rfl trivial _ _ _ _ _ rfl rfl rfl (fun w hw => idx4 _ k hk4 w)
    · intro o ho
      cases ho
      exact step_store rfl trivial rfl _ _ _ _ _ rfl rfl rfl (fun w' hw => by obtain ⟨w2, e1, e2, e3, e4⟩ := store4 w' _ k _ _ hw.1 hk4; refine ⟨w2, e1, e2.congr (fun j hj => ?_), (e4 _ (by omega)).trans hw.2.1, (e4 _ (by omega)).trans hw.2.2.1, hw.2.2.2.trans (e3 _ (Nat.le_refl _))⟩; exact hmix k j)
    intro W hW
    first | refine hK _ _ ?_ | refine (‹∀ (a : Act) (w : World), Code.wp Try.prog _ _ a w → _›) _ _ ?_
    simp only [finL, List.getD_cons_zero, List.getD_cons_succ, Nat.zero_add, Nat.reduceAdd, List.setIfInBounds_toArray, List.set_cons_zero, List.set_cons_succ]
    obtain ⟨g1, g3, g2, g4⟩ := hW
    go_wp2
    go_roundw
    case rel => exact ⟨k + 1, by simp, by omega, g1, g3, g2, g4⟩
    case measure => simp only [vnat]; omega
  · have hk5 : k = 4 := by omega
    subst hk5
    have h1' : Zh4 wr w.heap.size (wd (dif A B)) := h1.congr (fun j hj => by simp [hj])
    obtain ⟨x0, x1, x2, x3, _⟩ := h1'.facts
    have H2 : Hid (Zh4 wr (w.heap.size + 2) (fun _ => 0)) := h2
    clear h1 h1' h2 hmix
    go_wp2_with (go_at_call 41; refine (hc _).mono ?_; rintro e w' ⟨rfl, hb'⟩; have q : Hid (Zh4 w' (w.heap.size + 2) (fun _ => 0)) := (hb'.block _ (by omega)).trans H2.out; obtain ⟨y0, y1, y2, y3, z0, z1, z2, z3⟩ := q.out.facts; have hb2 : Below w.heap.size w w' := hb.trans (hb'.mono (by omega)))
    exact ret4 rfl rfl rfl (fin4 q.out _) ⟨rfl, below4 hb2 (by omega) _⟩
theorem Zh4.carry {w w' : World} {b : Nat} {c : Nat → Nat} (h : Zh4 w b c) (hb : Below w.heap.size w w') : Zh4 w' b c := h.keep hb (Array.getElem?_eq_some_iff.1 h).1
theorem bcarry {w0 w w' : World} {B : Nat} (h : Below B w0 w) (hB : B ≤ w0.heap.size) (hb : Below w.heap.size w w') : Below B w0 w' := h.trans (hb.mono (Nat.le_trans hB h.size))
theorem eqStep (A B j : Nat) (hj : j < 4) (is : List Nat) (w : World) : (Op.eqItems 9999 30 1 (cells4 (wd A)) (cells4 (wd B)) (j :: is)).run Try.prog w = if wd A j = wd B j then (Op.eqItems 9999 30 1 (cells4 (wd A)) (cells4 (wd B)) is).run Try.prog w else .ok false w := by
 have he : Try.prog.plainKey 30 = true := by kernel_rfl
 have p1 := run_part_plain (P := Try.prog) w he (off := j * 1) (by rw [Nat.mul_one]; exact cells4_get (wd A) j hj)
 have p2 := run_part_plain (P := Try.prog) w he (off := j * 1) (by rw [Nat.mul_one]; exact cells4_get (wd B) j hj)
 have p3 := run_equalIn_int (P := Try.prog) w 9998 30 .u32 .u32 (wd A j : Int) (wd B j : Int) Try.underlying30
 rw [Op.eqItems]
 simp only [Sem.run_bind, p1, p2, Result.andThen_ok]
 rw [p3]
 simp only [Result.andThen_ok]
 by_cases h : wd A j = wd B j
 · simp [h]
 · have h2 : ((wd A j : Int) == (wd B j : Int)) = false := by simp; omega
   simp [h, h2]
theorem eqn4 (A B : Nat) (hA : A < S128) (hB : B < S128) (w : World) : (Op.equalIn 10000 32 (sv A) (sv B)).run Try.prog w = .ok (decide (A = B)) w := by
 have hi : (Try.prog.info? 30).isSome = true := by kernel_rfl
 obtain ⟨i, hi⟩ := Option.isSome_iff_exists.1 hi
 have hc : Try.prog.cellsOf 30 = 1 := by kernel_rfl
 rw [sv_cells, sv_cells, run_equalIn_array w 9999 _ _ Try.underlying32 hi, hc, show List.range 4 = [0, 1, 2, 3] from rfl]
 rw [eqStep A B 0 (by decide), eqStep A B 1 (by decide), eqStep A B 2 (by decide), eqStep A B 3 (by decide)]
 by_cases e : A = B
 · subst e; simp [Op.eqItems]
 · have hn : ¬ (wd A 0 = wd B 0 ∧ wd A 1 = wd B 1 ∧ wd A 2 = wd B 2 ∧ wd A 3 = wd B 3) := fun h => e (ext_wd hA hB h.1 h.2.1 h.2.2.1 h.2.2.2)
   simp only [e, decide_false]
   by_cases h0 : wd A 0 = wd B 0
   · by_cases h1 : wd A 1 = wd B 1
     · by_cases h2 : wd A 2 = wd B 2
       · by_cases h3 : wd A 3 = wd B 3
         · exact absurd ⟨h0, h1, h2, h3⟩ hn
         · simp [h0, h1, h2, h3]
       · simp [h0, h1, h2]
     · simp [h0, h1]
   · simp [h0]
theorem eql4 (x y : Operand) (A B : Nat) (hA : A < S128) (hB : B < S128) (w : World) : binRun Try.prog .eql 32 x y (sv A) (sv B) w = .ok (.bool (decide (A = B))) w := by
 have h := eqn4 A B hA hB w
 unfold sv at h
 unfold binRun sv
 go_simp
def sumW (M : Nat) : Nat → Nat
 | 0 => 0
 | k + 1 => sumW M k + popAux 32 (wd M k)
theorem sumW_4 (M : Nat) : sumW M 4 = cnt M := by simp [sumW, cnt_words]
theorem sumW_le (M : Nat) : ∀ k, sumW M k ≤ 32 * k
 | 0 => Nat.le_refl _
 | k + 1 => by have := sumW_le M k; have := popAux_le 32 (wd M k); simp only [sumW]; omega
theorem idxv4 (M k : Nat) (hk : k < 4) (w : World) : (Instr.index 32 (sv M) (.int .i64 (k : Int))).run Try.prog w = .ok (.int .u32 (wd M k : Nat)) w := by
 have h1 : (k : Int) < 4 := by omega
 have h2 : 0 ≤ (k : Int) := by omega
 have he : Try.prog.plainKey 30 = true := by kernel_rfl
 have hi : (Try.prog.info? 30).isSome = true := by kernel_rfl
 obtain ⟨i, hi⟩ := Option.isSome_iff_exists.1 hi
 have hc : Try.prog.cellsOf 30 = 1 := by kernel_rfl
 have p1 := run_part_plain (P := Try.prog) w he (off := k * 1) (by rw [Nat.mul_one]; exact cells4_get (wd M) k hk)
 rw [sv_cells]
 simp only [Instr.index, asIntOf, Sem.run_bind, Sem.run_pure, Result.andThen_ok, run_underlying Try.underlying32]
 have h3 : (0 : Int) ≤ (k : Int) ∧ (k : Int) < ((4 : Nat) : Int) := ⟨h2, by omega⟩
 rw [if_pos h3]
 simp only [Sem.run_bind, run_sizeOf w hi, Result.andThen_ok, hc, Int.toNat_natCast]
 exact p1
theorem count_any (N : Nat) (w : World) : Calls Try.prog 36 #[sv N] w fun e w' => e = .returned (.int .i64 ((cnt (cln N) : Nat) : Int)) ∧ Below w.heap.size w w' := by
 have hc := clean_any N
 have hix := idxv4 (cln N)
 generalize cln N = M at *
 simp only [sv] at hc hix ⊢
 go_enter Try.func36, Try.ntmps36
 go_wp2_with (go_at_call 41; refine (hc _).mono ?_; rintro e w1 ⟨rfl, hb⟩; have hb2 : Below w.heap.size w w1 := ((Below.refl _ w).alloc (by simp) _).trans (hb.mono (by simp)))
 clear hc hb
 go_loopw [8, 3] (fun c s wz => ∃ k : Nat, c = .int .i64 k ∧ k ≤ 4 ∧ s = .int .i64 ((sumW M k : Nat) : Int) ∧ Below w.heap.size w wz) (fun c _ _ => 4 - vnat c)
 case atStart => exact ⟨0, rfl, by omega, rfl, hb2⟩
 case round =>
  obtain ⟨k, rfl, hk, rfl, hb⟩ := hrel
  by_cases hk4 : k < 4
  · have hki : (k : Int) < 4 := by omega
    have h2 := hix k hk4
    have h3 := ones_any (wd M k) (wd_lt M k)
    have h4 := sumW_le M k
    have h5 := popAux_le 32 (wd M k)
    clear hix
    go_wp2_with (go_at_call 42; refine (h3 _).mono ?_; rintro e w1 ⟨rfl, rfl⟩)
    go_roundw
    case rel => exact ⟨k + 1, by simp, by omega, by simp only [sumW]; congr 1, hb.drew⟩
    case measure => simp only [vnat]; omega
  · have hk5 : k = 4 := by omega
    subst hk5
    go_wp2
    go_ret
    exact ⟨ret_int (by rw [sumW_4]), hb⟩
end Go.Proofs.Ytifcnnonnocmmaa
